"""Plans made from other plans; all are right where those are, and hidden from as many houses."""

from math import gcd

from wishunseen.errors import InvalidMatrix, InvalidNumber, InvalidPlan, Undefined
from wishunseen.kinds import is_between, is_order
from wishunseen.libraries import cut_in_books, letters_of
from wishunseen.matrices import columns_at, is_matrix, matrix_product, rank_of
from wishunseen.plans import Plan, check_question, check_wish, draws_asking
from wishunseen.right import columns_of_book

MOST_SHARE = 999


def reordered_plan(plan, order):
    """The plan in which book k is book order[k] of this one."""
    if not is_order(order, plan.book_count):
        raise InvalidNumber(order)
    return _plan_of_books(plan, order)


def rehoused_plan(plan, order):
    """The plan in which house n is asked what house order[n] of this one is."""
    if not is_order(order, plan.house_count):
        raise InvalidNumber(order)
    return _plan_like(plan, _rehoused(draws_asking(plan, plan.questions), order))


def remixed_plan(plan, house, question, matrix):
    """The plan in which one question of a house has the matrix times its rows in their place."""
    check_question(plan, house, question)
    rows = plan.questions[house][question]
    if not _is_invertible(plan.p, len(rows), matrix):
        raise InvalidMatrix(matrix)
    questions = [list(known) for known in plan.questions]
    questions[house][question] = matrix_product(plan.p, matrix, rows)
    return _plan_like(plan, draws_asking(plan, questions))


def beside_plans(one, other):
    """The plan for books of the letters of both, in which both are drawn and asked at once."""
    if (one.p, one.house_count, one.book_count) != (other.p, other.house_count, other.book_count):
        raise InvalidPlan("beside", 0)
    firsts = draws_asking(one, _widened(one, 0, other.book_length))
    seconds = draws_asking(other, _widened(other, one.book_length, 0))
    draws = [
        (weight * factor, _joined_asks(asks, others)) for weight, asks in firsts for factor, others in seconds
    ]
    return Plan.made(one.p, one.book_length + other.book_length, one.book_count, one.house_count, draws)


def mixed_plans(one, other, first=1, second=1):
    """The plan that goes by one plan or by the other, with chances like first to second."""
    if not _are_alike(one, other):
        raise InvalidPlan("mixed", 0)
    for number in (first, second):
        if not is_between(number, 1, MOST_SHARE):
            raise InvalidNumber(number)
    draws = [
        *_weighted(draws_asking(one, one.questions), first * other.weight),
        *_weighted(draws_asking(other, other.questions), second * one.weight),
    ]
    common = 0
    for weight, _ in draws:
        common = gcd(common, weight)
    return _plan_like(one, [(weight // common, asks) for weight, asks in draws])


def turned_plan(plan):
    """The plan in which the houses, by chance, stand for each other in turn."""
    count = plan.house_count
    asking = draws_asking(plan, plan.questions)
    draws = []
    for turn in range(count):
        draws.extend(_rehoused(asking, [(house + turn) % count for house in range(count)]))
    return _plan_like(plan, draws)


def left_out_plan(plan, book):
    """The plan for the other books only."""
    check_wish(plan, book)
    if plan.book_count == 1:
        raise Undefined("book")
    return _without_noughts(_plan_of_books(plan, [other for other in range(plan.book_count) if other != book]))


def _plan_like(plan, draws):
    """The plan of these draws of questions that is, else, like this one."""
    return Plan.made(plan.p, plan.book_length, plan.book_count, plan.house_count, draws)


def _plan_of_books(plan, books):
    """The plan with just these books, in this order, in the columns and as wishes."""
    columns = [column for book in books for column in columns_of_book(plan, book)]
    questions = [[columns_at(question, columns) for question in known] for known in plan.questions]
    draws = [(weight, [asks[book] for book in books]) for weight, asks in draws_asking(plan, questions)]
    return Plan.made(plan.p, plan.book_length, len(books), plan.house_count, draws)


def _without_noughts(plan):
    """The plan without the rows of noughts in its questions."""
    questions = [[tuple([row for row in question if any(row)]) for question in known] for known in plan.questions]
    return _plan_like(plan, draws_asking(plan, questions))


def _rehoused(draws, order):
    """The draws with what house order[n] is asked as what house n is asked."""
    return [(weight, [[asked[house] for house in order] for asked in asks]) for weight, asks in draws]


def _is_invertible(p, size, value):
    """Whether value is a matrix of so many rows, columns and rank."""
    return is_matrix(value, p, size) and len(value) == size and rank_of(p, value) == size


def _widened(plan, before, behind):
    """The questions of each house with so many noughts before and behind the letters of each book."""
    return [
        [tuple([_widened_row(plan, row, before, behind) for row in question]) for question in known]
        for known in plan.questions
    ]


def _widened_row(plan, row, before, behind):
    books = cut_in_books(plan.book_length, row)
    return letters_of([(0,) * before + book + (0,) * behind for book in books])


def _joined_asks(asks, others):
    """The asks with, for each wish and house, the rows of both questions."""
    return [[one + other for one, other in zip(asked, asked_too)] for asked, asked_too in zip(asks, others)]


def _are_alike(one, other):
    """Whether both plans are for the same libraries and as many houses."""
    if one.house_count != other.house_count:
        return False
    return (one.p, one.book_length, one.book_count) == (other.p, other.book_length, other.book_count)


def _weighted(draws, factor):
    return [(weight * factor, asks) for weight, asks in draws]
