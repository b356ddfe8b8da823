"""Least plans: right, hidden from one house, and with the shortest answers on the mean."""

from wishunseen.errors import InvalidNumber
from wishunseen.fields import check_field
from wishunseen.kinds import is_between, rows_below
from wishunseen.plans import Plan

MOST_HOUSES = 6
MOST_BOOKS = 4
MOST_LETTERS = 6


def least_plan(p, house_count, book_count, blocks=1):
    """The least plan for books of blocks * (house_count - 1) letters."""
    check_field(p)
    check_house_count(house_count)
    if not is_between(book_count, 1, MOST_BOOKS):
        raise InvalidNumber(book_count)
    if not is_between(blocks, 1, MOST_LETTERS // (house_count - 1)):
        raise InvalidNumber(blocks)
    rows = rows_below(house_count, book_count - 1)
    draws = [(1, [_asked(house_count, blocks, row, wish) for wish in range(book_count)]) for row in rows]
    return Plan.made(p, blocks * (house_count - 1), book_count, house_count, draws)


def check_house_count(house_count):
    """Raise InvalidNumber(house_count) unless it is an integer from 2 to 6."""
    if not is_between(house_count, 2, MOST_HOUSES):
        raise InvalidNumber(house_count)


def _asked(house_count, blocks, row, wish):
    """What each house is asked, where the books that are not wished get the blocks with the numbers of the row."""
    rest = sum(row)
    return [
        _question(house_count, blocks, (*row[:wish], (house - rest) % house_count, *row[wish:]))
        for house in range(house_count)
    ]


def _question(house_count, blocks, numbers):
    """The question for the sum of the blocks with these numbers, one of each book; block 0 is nothing."""
    if not any(numbers):
        return ()
    return tuple([_row(house_count, blocks, numbers, at) for at in range(blocks)])


def _row(house_count, blocks, numbers, at):
    """The row with 1 at the letter numbered at of each of these blocks."""
    length = blocks * (house_count - 1)
    # For block 0 this place is below 0, so that no letter of its book is asked.
    places = [(number - 1) * blocks + at for number in numbers]
    return tuple([1 if letter == place else 0 for place in places for letter in range(length)])
