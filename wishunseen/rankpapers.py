"""Papers of rank: what shows that rows have a rank, without reducing them again."""

from wishunseen.kinds import is_choice, is_number
from wishunseen.matrices import (
    check_matrix, columns_at, is_matrix, leads_of, matrix_product, reduced_rows, turned_rows, unit_matrix,
    width_of_rows,
)


def rank_paper(p, rows):
    """Some paper for the rank of rows."""
    check_matrix(p, rows)
    # Where the reduced form of the turned rows begins stand the rows that no rows ahead of them span.
    places = leads_of(reduced_rows(p, turned_rows(rows, width_of_rows(rows))))
    chosen = tuple([rows[place] for place in places])
    columns = leads_of(reduced_rows(p, chosen))
    back = _inverse_matrix(p, columns_at(chosen, columns))
    sums = matrix_product(p, columns_at(rows, columns), back)
    return (places, sums, columns, back)


def rank_holds(p, rows, r, paper):
    """Whether r is a number and paper one that rows have this rank."""
    check_matrix(p, rows)
    if not is_number(r) or not isinstance(paper, tuple) or len(paper) != 4:
        return False
    places, sums, columns, back = paper
    if not _is_choice(places, r, len(rows)) or not _is_choice(columns, r, width_of_rows(rows)):
        return False
    chosen = tuple([rows[place] for place in places])
    return _adds_up(p, rows, chosen, sums) and _turns_back(p, columns_at(chosen, columns), back)


def _inverse_matrix(p, rows):
    """The matrix that rows times it make the unit matrix; rows are as many as their columns, and of full rank."""
    size = len(rows)
    beside = tuple([(*row, *unit) for row, unit in zip(rows, unit_matrix(size))])
    return tuple([row[size:] for row in reduced_rows(p, beside)])


def _is_choice(value, r, count):
    """Whether value is a rising tuple of r numbers below count."""
    return isinstance(value, tuple) and len(value) == r and is_choice(value, count)


def _adds_up(p, rows, chosen, sums):
    """Whether the chosen rows times the letters of sums add up to rows."""
    if not is_matrix(sums, p, len(chosen)) or len(sums) != len(rows):
        return False
    if len(chosen) == 0:
        return not any([any(row) for row in rows])
    return matrix_product(p, sums, chosen) == rows


def _turns_back(p, square, back):
    """Whether square times back is the unit matrix."""
    if not is_matrix(back, p, len(square)) or len(back) != len(square):
        return False
    return matrix_product(p, square, back) == unit_matrix(len(square))
