"""What houses see of a plan: whether their questions tell which book is wished."""

from itertools import combinations

from wishunseen.errors import InvalidNumber
from wishunseen.kinds import is_between, is_choice
from wishunseen.plans import check_wish
from wishunseen.shares import Share


def seen_by(plan, lot, wish):
    """The rows that the houses of a lot are asked for a wish, ascending, each with its weight."""
    check_lot(plan, lot)
    check_wish(plan, wish)
    weights = _weights_seen(plan, lot, wish)
    return tuple(sorted(weights.items()))


def first_seen(plan, together=1):
    """None if the plan is hidden from so many houses; otherwise what shows that it is not."""
    check_together(together, plan.house_count)
    for lot in every_lot(plan.house_count, together):
        unlike = first_unlike(_all_weights_seen(plan, lot))
        if unlike is not None:
            return (lot, *unlike)
    return None


def guess_chance(plan, lot):
    """The greatest chance with which the houses of a lot can guess the wish."""
    check_lot(plan, lot)
    weights = _all_weights_seen(plan, lot)
    best = [max([known.get(row, 0) for known in weights]) for row in _rows_of(weights)]
    return Share(sum(best), plan.book_count * plan.weight)


def every_lot(house_count, size):
    """All lots of so many houses, ascending."""
    return list(combinations(range(house_count), size))


def check_lot(plan, lot):
    """Raise InvalidNumber(lot) unless it is a rising, non-empty sequence of houses."""
    if not is_choice(lot, plan.house_count) or len(lot) == 0:
        raise InvalidNumber(lot)


def check_together(together, most):
    """Raise InvalidNumber(together) unless it is an integer from 1 to most."""
    if not is_between(together, 1, most):
        raise InvalidNumber(together)


def numbers_of_lot(asked, lot):
    """The numbers of the questions of the houses of a lot only."""
    return tuple([asked[house] for house in lot])


def first_unlike(weights):
    """The first row of unlike weights, with the wish and the weights that show it; None if there is none."""
    for row in _rows_of(weights):
        for wish, known in enumerate(weights):
            if known.get(row, 0) != weights[0].get(row, 0):
                return (row, wish, weights[0].get(row, 0), known.get(row, 0))
    return None


def _weights_seen(plan, lot, wish):
    """The weight of each row that the lot is asked for this wish."""
    weights = {}
    for weight, asks in plan.draws:
        row = numbers_of_lot(asks[wish], lot)
        weights[row] = weights.get(row, 0) + weight
    return weights


def _all_weights_seen(plan, lot):
    return [_weights_seen(plan, lot, wish) for wish in range(plan.book_count)]


def _rows_of(weights):
    """The rows that come for some wish, ascending."""
    return sorted(set([row for known in weights for row in known]))
