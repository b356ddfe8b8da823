"""What plans spend, the least that any plan can spend, and what linear plans waste."""

from wishunseen.errors import InvalidNumber, Undefined
from wishunseen.hidden import check_together, every_lot, first_seen, seen_by
from wishunseen.kinds import is_choice, is_order, is_positive
from wishunseen.matrices import rank_of, without_columns
from wishunseen.plans import all_houses, check_wish, rows_asked
from wishunseen.right import columns_of_book, first_unread, houses_left
from wishunseen.shares import Share


def spent_by(plan, wish):
    """The mean, by the weights, of the number of letters of all answers."""
    check_wish(plan, wish)
    total = sum([weight * _letters_answered(plan, asks[wish]) for weight, asks in plan.draws])
    return Share(total, plan.weight)


def least_mean(house_count, book_count, book_length, together=1, silent=0, lying=0):
    """The least that a plan spends that is right, hidden from so many houses together, and sturdy."""
    for number in (house_count, book_count, book_length):
        if not is_positive(number):
            raise InvalidNumber(number)
    left = houses_left(house_count, silent, lying)
    check_together(together, left)
    ratio = Share(together, left)
    powers = Share(0)
    for _ in range(book_count):
        powers = powers * ratio + 1
    return powers * Share(house_count * book_length, left)


def joint_rank(plan, wish, known):
    """The mean of the rank, besides the known books, of all rows that are asked."""
    _check_known(plan, wish, known)
    return _mean_rank(plan, wish, known, [all_houses(plan)])


def apart_rank(plan, wish, known, together=1):
    """The mean of the rank, besides the known books, of the rows that lots of so many houses are asked."""
    _check_known(plan, wish, known)
    check_together(together, plan.house_count)
    return _mean_rank(plan, wish, known, every_lot(plan.house_count, together))


def wastes_of(plan, order, together=1):
    """What the plan spends in vain, beyond what houses apart tell, and twice; the books are taken in this order."""
    check_wastes(plan, order, together)
    groups = rank_groups(plan, order, together)
    means = [_mean_rank(plan, wish, known, lots) for wish, known, lots in groups]
    return wastes_by(plan, order, together, means)


def excess_of(plan, together=1):
    """What the plan spends above the least."""
    check_together(together, plan.house_count)
    _check_judged(plan, together)
    return _excess(plan, together)


def is_least(plan, together=1):
    """Whether the plan is right, hidden from so many houses, and spends the least."""
    check_together(together, plan.house_count)
    return _is_right_and_hidden(plan, together) and _excess(plan, together) == 0


def check_wastes(plan, order, together):
    """Raise InvalidNumber for the order or together, or Undefined("wastes") if the plan has none."""
    if not is_order(order, plan.book_count):
        raise InvalidNumber(order)
    check_together(together, plan.house_count)
    _check_judged(plan, together)


def rank_groups(plan, order, together):
    """The wish, known books and lots of each mean of ranks that the wastes are reckoned from, in turn."""
    everyone = [all_houses(plan)]
    lots = every_lot(plan.house_count, together)
    groups = [(order[0], (), everyone)]
    for count in range(1, plan.book_count):
        known = tuple(sorted(order[:count]))
        for wish in order[count - 1:count + 1]:
            groups.append((wish, known, everyone))
            groups.append((wish, known, lots))
    return groups


def wastes_by(plan, order, together, means):
    """The wastes, by the means of ranks of the groups that rank_groups tells."""
    factor = Share(plan.house_count, together)
    vain = spent_by(plan, order[0]) - means[0]
    beyond = []
    twice = []
    for at in range(1, len(means), 4):
        joint, apart, later_joint, later_apart = means[at:at + 4]
        beyond.append(joint - apart)
        twice.append(factor * later_apart - later_joint)
    return (vain, tuple(beyond), tuple(twice))


def rows_besides(plan, lot, numbers, known):
    """The rows of the questions with these numbers of the lot, without the columns of the known books."""
    columns = [column for book in known for column in columns_of_book(plan, book)]
    return without_columns(plan.p, rows_asked(plan, lot, numbers), columns)


def _letters_answered(plan, asked):
    return sum([plan.answer_size(house, question) for house, question in enumerate(asked)])


def _check_known(plan, wish, known):
    check_wish(plan, wish)
    if not is_choice(known, plan.book_count):
        raise InvalidNumber(known)


def _mean_rank(plan, wish, known, lots):
    """The mean over the lots of the mean, by the weights, of the rank besides known of what the lot is asked."""
    total = sum([
        weight * rank_of(plan.p, rows_besides(plan, lot, numbers, known))
        for lot in lots for numbers, weight in seen_by(plan, lot, wish)
    ])
    return Share(total, plan.weight * len(lots))


def _is_right_and_hidden(plan, together):
    return first_seen(plan, together) is None and first_unread(plan) is None


def _check_judged(plan, together):
    if not _is_right_and_hidden(plan, together):
        raise Undefined("wastes")


def _excess(plan, together):
    # A plan that is hidden spends the same for all wishes.
    least = least_mean(plan.house_count, plan.book_count, plan.book_length, together)
    return spent_by(plan, 0) - least
