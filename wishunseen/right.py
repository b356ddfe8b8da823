"""Whether the wished book is always read, and how it is read out of answers."""

from wishunseen.errors import InvalidAnswers, InvalidNumber, Undefined
from wishunseen.hidden import every_lot, numbers_of_lot
from wishunseen.kinds import are_letters, is_number, is_sequence, rows_below
from wishunseen.libraries import Library, letters_of
from wishunseen.matrices import reduced_rows, sum_to, turned_rows, unit_matrix, zero_rows
from wishunseen.plans import Plan, all_houses, check_ask, rows_asked


def first_unread(plan):
    """None if the plan is right; otherwise the first wish and draw that are not read, with two libraries."""
    found = _first_blind(plan, [all_houses(plan)])
    if found is None:
        return None
    wish, draw, _, one, other = found
    return (wish, draw, one, other)


def first_shaken(plan, silent, lying):
    """None if the plan is sturdy; otherwise the first wish, draw and lot that do not read, with two libraries."""
    left = houses_left(plan.house_count, silent, lying)
    if left < 1:
        raise Undefined("houses")
    return _first_blind(plan, every_lot(plan.house_count, left))


def reader_of(plan, wish, draw):
    """Some matrix that gives the letters of the wished book out of those of all answers."""
    _check_read(plan, wish, draw)
    rows = plan.asked_rows(wish, draw)
    units = unit_matrix(plan.book_length * plan.book_count)
    return tuple([sum_to(plan.p, rows, units[column]) for column in columns_of_book(plan, wish)])


def read_book(plan, wish, draw, answers):
    """The wished book of all libraries with these answers."""
    _check_read(plan, wish, draw)
    asked = plan.asked(wish, draw)
    if not _are_answers(plan, asked, answers):
        raise InvalidAnswers(answers)
    letters = _letters_that_answer(plan, asked, tuple([tuple(answer) for answer in answers]))
    if letters is None:
        raise InvalidAnswers(answers)
    return _book_of(plan, wish, letters)


def houses_left(house_count, silent, lying):
    """How many houses there are less the silent ones and, twice, the lying ones; it may be below 0."""
    for number in (silent, lying):
        if not is_number(number):
            raise InvalidNumber(number)
    return house_count - silent - 2 * lying


def columns_of_book(plan, book):
    """The columns of the letters of a book."""
    return tuple(range(book * plan.book_length, (book + 1) * plan.book_length))


def pair_by_rows(p, rows, size, columns):
    """Two rows of so many letters with alike products by rows but unlike letters at columns; None if there are none."""
    units = unit_matrix(size)
    # Rows in reduced form span a unit row only if it is one of them.
    reduced = reduced_rows(p, rows)
    if all([units[column] in reduced for column in columns]):
        return None
    unseen = [row for row in zero_rows(p, rows, size) if any([row[column] for column in columns])]
    return ((0,) * size, unseen[0])


def _first_blind(plan, lots):
    """The first wish, draw and lot whose answers do not tell the book, with two libraries; None if there is none."""
    telling = {}
    for wish in range(plan.book_count):
        for draw, (_, asks) in enumerate(plan.draws):
            for lot in lots:
                numbers = numbers_of_lot(asks[wish], lot)
                if (wish, lot, numbers) in telling:
                    continue
                pair = _pair_unlike(plan, wish, lot, numbers)
                if pair is not None:
                    one, other = pair
                    return (wish, draw, lot, _library(plan, one), _library(plan, other))
                telling[(wish, lot, numbers)] = True
    return None


def _pair_unlike(plan, wish, lot, numbers):
    """The letters of two libraries with alike answers of the lot but unlike books wish; None if there are none."""
    if isinstance(plan, Plan):
        size = plan.book_length * plan.book_count
        return pair_by_rows(plan.p, rows_asked(plan, lot, numbers), size, columns_of_book(plan, wish))
    return _pair_by_tables(plan, wish, _tables_asked(plan, lot, numbers))


def _pair_by_tables(plan, wish, tables):
    first = {}
    for letters, answers in _every_answers(plan, tables):
        other = first.setdefault(answers, letters)
        if _book_of(plan, wish, other) != _book_of(plan, wish, letters):
            return (other, letters)
    return None


def _tables_asked(plan, lot, numbers):
    """The tables of the questions with these numbers of the houses of a lot."""
    return [plan.questions[house][number][1] for house, number in zip(lot, numbers)]


def _every_answers(plan, tables):
    """The letters of each library, with what it answers by these tables."""
    every = rows_below(plan.p, plan.book_length * plan.book_count)
    return [(letters, tuple([table[at] for table in tables])) for at, letters in enumerate(every)]


def _book_of(plan, book, letters):
    """The book of the library with these letters."""
    return letters[book * plan.book_length:(book + 1) * plan.book_length]


def _library(plan, letters):
    return Library.of_letters(plan.p, plan.book_length, letters)


def _check_read(plan, wish, draw):
    """Raise InvalidNumber, or Undefined("reader") unless this wish is read by this draw."""
    check_ask(plan, wish, draw)
    if _pair_unlike(plan, wish, all_houses(plan), plan.asked(wish, draw)) is not None:
        raise Undefined("reader")


def _are_answers(plan, asked, value):
    """Whether value is a sequence with, for each house, letters as many as its answer has."""
    if not is_sequence(value) or len(value) != plan.house_count:
        return False
    sizes = [plan.answer_size(house, question) for house, question in enumerate(asked)]
    return all([are_letters(plan.p, size, answer) for size, answer in zip(sizes, value)])


def _letters_that_answer(plan, asked, answers):
    """The letters of some library with these answers; None if there is none."""
    if isinstance(plan, Plan):
        return _letters_by_rows(plan, rows_asked(plan, all_houses(plan), asked), letters_of(answers))
    tables = _tables_asked(plan, all_houses(plan), asked)
    found = [letters for letters, others in _every_answers(plan, tables) if others == answers]
    return found[0] if len(found) > 0 else None


def _letters_by_rows(plan, rows, answered):
    columns = turned_rows(rows, plan.book_length * plan.book_count)
    try:
        # The columns times the letters of a library add up to what it answers.
        return sum_to(plan.p, columns, answered)
    except Undefined:
        return None
