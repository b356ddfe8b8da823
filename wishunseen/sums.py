"""Plans of sums, which are hidden from all houses but one, and whole plans, which are hidden from all."""

from wishunseen.errors import InvalidNumber
from wishunseen.fields import check_field
from wishunseen.kinds import is_below, is_positive, power_up_to, rows_below
from wishunseen.leastplan import check_house_count
from wishunseen.libraries import cut_in_books
from wishunseen.matrices import turned_rows, unit_matrix
from wishunseen.plans import Plan

MOST_DRAWS = 256


def sums_plan(p, house_count, book_count):
    """The plan for books of one letter in which the rows of all houses add up to the wish."""
    check_field(p)
    check_house_count(house_count)
    if not is_positive(book_count) or power_up_to(p, book_count * (house_count - 1), MOST_DRAWS) > MOST_DRAWS:
        raise InvalidNumber(book_count)
    units = unit_matrix(book_count)
    tapes = rows_below(p, book_count * (house_count - 1))
    draws = [(1, [_asked(p, cut_in_books(book_count, tape), unit) for unit in units]) for tape in tapes]
    return Plan.made(p, 1, book_count, house_count, draws)


def whole_plan(p, house_count, book_count, book_length, house):
    """The plan in which one house is asked for all letters."""
    check_field(p)
    for number in (house_count, book_count, book_length):
        if not is_positive(number):
            raise InvalidNumber(number)
    if not is_below(house, house_count):
        raise InvalidNumber(house)
    everything = unit_matrix(book_count * book_length)
    asked = [everything if number == house else () for number in range(house_count)]
    return Plan.made(p, book_length, book_count, house_count, [(1, [asked] * book_count)])


def _asked(p, rows, unit):
    """What each house is asked: all but the last one these rows, the last one what lacks for the unit row."""
    last = tuple([(letter - sum(column)) % p for letter, column in zip(unit, turned_rows(rows, len(unit)))])
    return [_question(row) for row in (*rows, last)]


def _question(row):
    return (row,) if any(row) else ()
