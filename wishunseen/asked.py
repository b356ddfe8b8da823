"""Rows of asks: whether houses that see several asks learn what is wished, also if draws are used again."""

from wishunseen.hidden import check_lot, first_unlike, numbers_of_lot
from wishunseen.kinds import rows_below


def first_told(plan, lot, names):
    """None if what the lot sees of these asks tells nothing of the wishes; otherwise what shows that it does."""
    check_lot(plan, lot)
    draws = _rows_of_draws(plan, names)
    seen = [[numbers_of_lot(asks[wish], lot) for _, asks in plan.draws] for wish in range(plan.book_count)]
    plain = _weights_seen(seen, draws, (0,) * len(names))
    for wishes in rows_below(plan.book_count, len(names)):
        unlike = first_unlike([plain, _weights_seen(seen, draws, wishes)])
        if unlike is not None:
            row, _, weight, other = unlike
            return (wishes, row, weight, other)
    return None


def _rows_of_draws(plan, names):
    """Each row of draws, one for each ask, with its weight; asks of the same name go by the same draw."""
    unlike = list({name: True for name in names})
    places = [unlike.index(name) for name in names]
    return [
        ([drawn[place] for place in places], _weight_of_row(plan, drawn))
        for drawn in rows_below(len(plan.draws), len(unlike))
    ]


def _weight_of_row(plan, drawn):
    weight = 1
    for draw in drawn:
        weight = weight * plan.draws[draw][0]
    return weight


def _weights_seen(seen, draws, wishes):
    """The weight of each row that is seen with these wishes, where seen tells it for each wish and draw."""
    weights = {}
    for row, weight in draws:
        told = tuple([seen[wish][draw] for wish, draw in zip(wishes, row)])
        weights[told] = weights.get(told, 0) + weight
    return weights
