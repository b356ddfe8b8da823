"""Promise [8]: papers of rank."""

import itertools
import random
import unittest

from tests.samples import (
    ANY_VALUES, FIELDS, NO_FIELDS, combined, large_matrices, nested, random_matrix, small_matrices,
)
from wishunseen.errors import InvalidMatrix, InvalidNumber
from wishunseen.matrices import matrix_product, rank_of
from wishunseen.rankpapers import rank_holds, rank_paper


def conditions_hold(p, columns, rows, r, paper):
    """The document's conditions one by one, for a paper of the right kinds."""
    places, sums, at, back = paper
    chosen = [rows[place] for place in places]
    square = tuple(tuple(row[column] for column in at) for row in chosen)
    unit = tuple(tuple(int(i == j) for j in range(r)) for i in range(r))
    return (
        len(places) == len(at) == len(back) == r and len(sums) == len(rows)
        and all(combined(p, letters, chosen, columns) == row for letters, row in zip(sums, rows))
        and all(len(letters) == r for letters in sums)
        and all(len(row) == r for row in back)
        and matrix_product(p, square, back) == unit
    )


def inverse(p, square):
    """Some inverse by Cramer's rule, so that papers are made otherwise than by the program; None if there is none."""
    size = len(square)
    whole = determinant(square) % p
    if whole == 0:
        return None
    factor = pow(whole, -1, p)
    return tuple(
        tuple(
            (-1) ** (i + j) * factor * determinant(
                [[square[a][b] for b in range(size) if b != i] for a in range(size) if a != j]
            ) % p
            for j in range(size)
        )
        for i in range(size)
    )


def determinant(square):
    if not square:
        return 1
    return sum(
        (-1) ** j * square[0][j] * determinant([row[:j] + row[j + 1:] for row in [list(row) for row in square[1:]]])
        for j in range(len(square))
    )


def other_papers(p, columns, rows, r):
    """All papers by every choice of places and columns."""
    found = []
    for places in itertools.combinations(range(len(rows)), r):
        for at in itertools.combinations(range(columns), r):
            back = inverse(p, [[rows[place][column] for column in at] for place in places])
            if back is not None:
                sums = tuple(
                    tuple(sum(row[column] * back[i][j] for i, column in enumerate(at)) % p for j in range(r))
                    for row in rows
                )
                found.append((places, sums, at, back))
    return found


def spoilt_at_one_place(value, p):
    """All values that differ from this one (an integer, or a tuple of such values) at one place."""
    if isinstance(value, int):
        found = [value + 1, value - 1, value + p, -1, p, True, False, None, str(value), (value,), [value], 10 ** 40]
        return [other for other in found if type(other) is not int or other != value]
    found = [list(value), value + (0,), value + ((),), value + value[-1:], (value,), None, True, 0, "x"]
    if value:
        found += [value[:-1], value[1:], ()]
    if value != value[::-1]:
        found.append(value[::-1])
    for at, inner in enumerate(value):
        found += [value[:at] + (other,) + value[at + 1:] for other in spoilt_at_one_place(inner, p)]
    return [other for other in found if other is None or type(other) is not tuple or other != value]


def right_kinds(p, columns, rows, r, paper):
    """Whether each part is a tuple of the right integers, told apart from True and lists."""
    def numbers(value, limit):
        return type(value) is tuple and all(type(n) is int and 0 <= n < limit for n in value)

    def rising(value, limit):
        return numbers(value, limit) and list(value) == sorted(set(value))

    if type(paper) is not tuple or len(paper) != 4:
        return False
    places, sums, at, back = paper
    return (
        rising(places, len(rows)) and rising(at, columns)
        and type(sums) is tuple and all(numbers(row, p) for row in sums)
        and type(back) is tuple and all(numbers(row, p) for row in back)
    )


class Papers(unittest.TestCase):
    def test_the_paper_of_the_rank_holds(self):
        for p, columns, rows in small_matrices() + large_matrices():
            paper = rank_paper(p, rows)
            r = rank_of(p, rows)
            self.assertTrue(right_kinds(p, columns, rows, r, paper))
            self.assertTrue(conditions_hold(p, columns, rows, r, paper))
            self.assertIs(rank_holds(p, rows, r, paper), True)
            self.assertEqual(rank_paper(p=p, rows=rows), paper)

    def test_for_no_other_rank(self):
        for p, columns, rows in small_matrices():
            paper = rank_paper(p, rows)
            r = rank_of(p, rows)
            for other in (r - 1, r + 1, -1, 10 ** 40, 10 ** 5000) + ANY_VALUES:
                if type(other) is not int or other != r:
                    self.assertIs(rank_holds(p, rows, other, paper), False)
            self.assertIs(rank_holds(p=p, rows=rows, r=r, paper=paper), True)

    def test_true_and_false_are_no_ranks(self):
        one = ((1, 0), (1, 0))
        self.assertIs(rank_holds(2, one, 1, rank_paper(2, one)), True)
        self.assertIs(rank_holds(2, one, True, rank_paper(2, one)), False)
        self.assertIs(rank_holds(2, (), 0, ((), (), (), ())), True)
        self.assertIs(rank_holds(2, (), False, ((), (), (), ())), False)

    def test_of_no_rank(self):
        for rows in ((), ((),), ((), ()), ((0, 0),), ((0, 0), (0, 0))):
            paper = ((), ((),) * len(rows), (), ())
            self.assertEqual(rank_paper(3, rows), paper)
            self.assertIs(rank_holds(3, rows, 0, paper), True)
            for other in (((), ((),) * (len(rows) + 1), (), ()), ((), (), (), ((),)), ((), ())):
                self.assertIs(rank_holds(3, rows, 0, other), False)
        self.assertIs(rank_holds(3, ((0, 0), (0, 1)), 0, ((), ((), ()), (), ())), False)
        self.assertIs(rank_holds(3, ((0, 0), (0, 1)), 1, ((), ((), ()), (), ())), False)

    def test_papers_made_otherwise(self):
        several = 0
        for p, columns, rows in small_matrices():
            r = rank_of(p, rows)
            papers = other_papers(p, columns, rows, r)
            several += len(papers) > 1
            self.assertIn(rank_paper(p, rows), papers)
            for paper in papers:
                self.assertIs(rank_holds(p, rows, r, paper), True)
        self.assertGreater(several, 100)

    def test_sums_are_not_bound_to_one_choice(self):
        # The same places with the columns of another choice stay a paper.
        rows = ((1, 1, 0), (0, 1, 1), (1, 2, 1))
        papers = other_papers(5, 3, rows, 2)
        self.assertGreater(len(papers), 4)
        for one, other in itertools.product(papers, repeat=2):
            mixed = (one[0], one[1], other[2], other[3])
            self.assertIs(rank_holds(5, rows, 2, mixed), one[0] == other[0])

    def test_rows_turned_with_all_that_goes_with_them(self):
        rng = random.Random(21)
        for p, columns, rows in small_matrices():
            places, sums, at, back = rank_paper(p, rows)
            r = len(places)
            order = list(range(len(rows)))
            rng.shuffle(order)
            moved = sorted(order.index(place) for place in places)
            new_order = [places.index(order[place]) for place in moved]
            turned = tuple(rows[place] for place in order)
            turned_sums = tuple(tuple(sums[place][i] for i in new_order) for place in order)
            turned_back = tuple(tuple(row[i] for i in new_order) for row in back)
            self.assertIs(rank_holds(p, turned, r, (tuple(moved), turned_sums, at, turned_back)), True)

    def test_places_and_columns_rise(self):
        rows = ((1, 0), (0, 1))
        unit, turned = ((1, 0), (0, 1)), ((0, 1), (1, 0))
        self.assertIs(rank_holds(2, rows, 2, ((0, 1), unit, (0, 1), unit)), True)
        self.assertIs(rank_holds(2, rows, 2, ((1, 0), turned, (0, 1), turned)), False)
        self.assertIs(rank_holds(2, rows, 2, ((0, 1), unit, (1, 0), turned)), False)
        self.assertIs(rank_holds(2, rows, 2, ((0, 0), unit, (0, 1), unit)), False)
        self.assertIs(rank_holds(2, rows, 2, ((0, 1), unit, (0, 2), unit)), False)
        self.assertIs(rank_holds(2, rows, 2, ((0, 2), unit, (0, 1), unit)), False)
        self.assertIs(rank_holds(2, rows, 2, ((-2, -1), unit, (0, 1), unit)), False)
        self.assertIs(rank_holds(2, rows, 2, ((0, 1), unit, (-2, -1), unit)), False)

    def test_spoilt_at_one_place(self):
        rng = random.Random(22)
        shapes = ((0, 0, 0), (2, 0, 0), (0, 3, 0), (2, 2, 1), (3, 2, 2), (2, 4, 2), (4, 3, 2), (3, 3, 0), (3, 3, 3))
        for p in (2, 3, 31):
            for count, columns, rank in shapes:
                base = random_matrix(rng, p, rank, columns)
                rows = tuple(
                    combined(p, [rng.randrange(p) for _ in base], base, columns) for _ in range(count)
                )
                r, paper = rank_of(p, rows), rank_paper(p, rows)
                for spoilt in spoilt_at_one_place(paper, p):
                    told = right_kinds(p, columns, rows, r, spoilt) and conditions_hold(p, columns, rows, r, spoilt)
                    self.assertIs(rank_holds(p, rows, r, spoilt), bool(told), (p, rows, spoilt))

    def test_any_value_as_paper(self):
        for rows in ((), ((),), ((0, 0),), ((1, 0), (1, 1))):
            for r in ANY_VALUES + (nested(10),):
                others = (nested(10), ((), (), ()), ((), (), (), (), ()), (1, 2, 3, 4), ("", "", "", ""))
                for paper in ANY_VALUES + others:
                    self.assertIs(rank_holds(2, rows, r, paper), False)
                for part in ANY_VALUES:
                    for at in range(4):
                        paper = list(rank_paper(2, rows))
                        if part == paper[at]:
                            continue
                        paper[at] = part
                        self.assertIs(rank_holds(2, rows, rank_of(2, rows), tuple(paper)), False, (rows, paper))


class Errors(unittest.TestCase):
    def test_the_errors_of_rank_of_come_first(self):
        for p in NO_FIELDS:
            for rows in ((), [], None, ((1,),)):
                for call in (lambda: rank_paper(p, rows), lambda: rank_holds(p, rows, None, None)):
                    with self.assertRaises(InvalidNumber) as caught:
                        call()
                    self.assertIs(caught.exception.value, p)
        for p in FIELDS:
            for rows in (None, [], [()], ((1,), (0, 1)), ((p,),), ((True,),), ((-1,),), ([1],), "x", 1):
                for call in (
                    lambda: rank_paper(p, rows), lambda: rank_holds(p, rows, 0, ((), (), (), ())),
                    lambda: rank_holds(p, rows, "x", ()),
                ):
                    with self.assertRaises(InvalidMatrix) as caught:
                        call()
                    self.assertIs(caught.exception.value, rows)


if __name__ == "__main__":
    unittest.main()
