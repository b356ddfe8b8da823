"""Matrices: tuples of rows of letters, with sums and products modulo p."""

from wishunseen.errors import InvalidMatrix, Undefined
from wishunseen.fields import check_field, inverse_of
from wishunseen.kinds import are_letters


def is_matrix(value, p, columns):
    """Whether value is a matrix of letters for p with so many columns."""
    return isinstance(value, tuple) and all([_is_row(row, p, columns) for row in value])


def reduced_rows(p, rows):
    """The one matrix in reduced form that spans the same rows."""
    check_matrix(p, rows)
    return _reduced(p, rows)


def rank_of(p, rows):
    """How many rows the reduced form has."""
    check_matrix(p, rows)
    return len(_reduced(p, rows))


def without_columns(p, rows, places):
    """The rows without the columns at places."""
    check_matrix(p, rows)
    kept = [place for place in range(width_of_rows(rows)) if place not in places]
    return columns_at(rows, kept)


def in_span(p, rows, row):
    """Whether row is spanned by rows."""
    check_matrix(p, rows)
    return _reduced(p, [*rows, tuple(row)]) == _reduced(p, rows)


def sum_to(p, rows, row):
    """Some letters, so that rows times them add up to row."""
    check_matrix(p, rows)
    equations = [(*column, letter) for column, letter in zip(turned_rows(rows, len(row)), row)]
    solved = _reduced(p, equations)
    leads = leads_of(solved)
    # An equation that begins at the letter of row itself says that 0 is 1.
    if len(rows) in leads:
        raise Undefined("sum")
    letters = [0] * len(rows)
    for lead, equation in zip(leads, solved):
        letters[lead] = equation[-1]
    return tuple(letters)


def zero_rows(p, rows, columns):
    """The matrix in reduced form of all rows with which each of rows has the product 0."""
    check_matrix(p, rows)
    leading = _reduced(p, rows)
    leads = leads_of(leading)
    free = [place for place in range(columns) if place not in leads]
    return _reduced(p, [_zero_row(p, leading, leads, columns, place) for place in free])


def products(p, rows, letters):
    """The products of each row with letters."""
    check_matrix(p, rows)
    return _products(p, rows, letters)


def matrix_product(p, rows, others):
    """The sums of others times the letters of each row."""
    check_matrix(p, rows)
    columns = turned_rows(others, width_of_rows(others))
    return tuple([_products(p, columns, row) for row in rows])


def check_matrix(p, rows):
    """Raise InvalidNumber(p) or InvalidMatrix(rows) unless p is a field and rows a matrix."""
    check_field(p)
    if not is_matrix(rows, p, width_of_rows(rows)):
        raise InvalidMatrix(rows)


def width_of_rows(rows):
    """How many columns the first row tells, for any value at all; 0 if there is no such row."""
    if isinstance(rows, tuple) and len(rows) > 0 and isinstance(rows[0], tuple):
        return len(rows[0])
    return 0


def columns_at(rows, places):
    """The rows with only the columns at places."""
    return tuple([tuple([row[place] for place in places]) for row in rows])


def turned_rows(rows, columns):
    """The so many columns of rows, as rows."""
    return tuple([tuple([row[place] for row in rows]) for place in range(columns)])


def unit_matrix(size):
    """The matrix of so many rows and columns with 1 at each (i, i), and 0 elsewhere."""
    return tuple([tuple([1 if at == place else 0 for at in range(size)]) for place in range(size)])


def leads_of(reduced):
    """At which columns the rows of a matrix in reduced form begin."""
    return tuple([row.index(1) for row in reduced])


def _is_row(value, p, columns):
    return isinstance(value, tuple) and are_letters(p, columns, value)


def _products(p, rows, letters):
    return tuple([sum([a * b for a, b in zip(row, letters)]) % p for row in rows])


def _reduced(p, rows):
    """The reduced form of a matrix that is known to be one."""
    left = [row for row in rows if any(row)]
    done = []
    column = 0
    while len(left) > 0:
        found = [row for row in left if row[column] != 0]
        if len(found) > 0:
            lead = _led_by_one(p, found[0], column)
            # The row that led becomes a row of noughts here, and is dropped with the others.
            left = [row for row in _cleared(p, left, lead, column) if any(row)]
            done = [*_cleared(p, done, lead, column), lead]
        column += 1
    return tuple(done)


def _led_by_one(p, row, column):
    factor = inverse_of(p, row[column])
    return tuple([factor * letter % p for letter in row])


def _cleared(p, rows, lead, column):
    """The rows less so much of lead that they have 0 at column."""
    return [_less(p, row, row[column], lead) if row[column] != 0 else row for row in rows]


def _less(p, row, factor, lead):
    return tuple([(a - factor * b) % p for a, b in zip(row, lead)])


def _zero_row(p, leading, leads, columns, free):
    """The row with 1 at the free place and 0 at all other free ones that has the product 0 with all."""
    row = [0] * columns
    row[free] = 1
    for lead, other in zip(leads, leading):
        row[lead] = -other[free] % p
    return tuple(row)
