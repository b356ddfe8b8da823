"""Promise [7]: matrices."""

import random
import unittest

from tests.samples import (
    ANY_VALUES, FIELDS, NO_FIELDS, NO_INTEGERS, combined, large_matrices, nested, random_matrix, small_matrices, span,
)
from wishunseen.errors import InvalidMatrix, InvalidNumber, Undefined
from wishunseen.matrices import (
    in_span, is_matrix, matrix_product, products, rank_of, reduced_rows, sum_to, without_columns, zero_rows,
)

NO_MATRICES = tuple(value for value in ANY_VALUES if value not in ((), ((1,),))) + (
    [], [()], ([],), [(1, 0)], ((1, 0), [0, 1]), ([1, 0],), ((1, 0), (1,)), ((1,), (1, 0)), ((), (1,)), ((1,), ()),
    ((True, 0),), ((0, False),), ((0, None),), ((0, "1"),), ((0, -1),), ((0, 31),), ((1, 0), (0, 32)), ((0, (1,)),),
    ("01",), ("",), (("0", "1"),), ((1, 0), None), ((1, 0), 1), (None,), ((0, 10 ** 40),), nested(10),
)


def calls(p, rows):
    """Each function but is_matrix, with other arguments that fit these rows."""
    return (
        lambda: reduced_rows(p, rows), lambda: rank_of(p, rows), lambda: without_columns(p, rows, ()),
        lambda: in_span(p, rows, (1, 1)), lambda: sum_to(p, rows, (1, 1)), lambda: zero_rows(p, rows, 2),
        lambda: products(p, rows, (1, 0)), lambda: matrix_product(p, rows, ((1,), (0,))),
    )


class Wrong(unittest.TestCase):
    def test_values_that_are_no_matrix(self):
        for value in NO_MATRICES:
            for columns in (0, 1, 2):
                self.assertIs(is_matrix(value, 31, columns), False, value)
            for call in calls(31, value):
                with self.assertRaises(InvalidMatrix) as caught:
                    call()
                self.assertIs(caught.exception.value, value)

    def test_letters_of_another_field(self):
        for p in FIELDS:
            for rows in (((0, p),), ((0, 0), (p, 0)), ((0, -1),)):
                for call in calls(p, rows):
                    with self.assertRaises(InvalidMatrix) as caught:
                        call()
                    self.assertIs(caught.exception.value, rows)

    def test_the_field_comes_first(self):
        for p in NO_FIELDS:
            for rows in (((1, 0),), (), [], None, ((0, -1),), p):
                for call in calls(p, rows):
                    with self.assertRaises(InvalidNumber) as caught:
                        call()
                    self.assertIs(caught.exception.value, p)


class Kinds(unittest.TestCase):
    def test_what_is_a_matrix(self):
        for p, columns, rows in small_matrices() + large_matrices():
            self.assertIs(is_matrix(rows, p, columns), True)
            self.assertIs(is_matrix(rows, p, columns + 1), rows == ())
            self.assertIs(is_matrix(list(rows), p, columns), False)
            if rows:
                self.assertIs(is_matrix(rows[:-1] + (list(rows[-1]),), p, columns), False)
                self.assertIs(is_matrix(rows + (rows[0] + (0,),), p, columns), False)
        self.assertIs(is_matrix(value=((0, 1),), p=2, columns=2), True)
        self.assertIs(is_matrix(((),), 2, 0), True)
        self.assertIs(is_matrix((), 2, 7), True)

    def test_each_place_counts(self):
        rows = ((0, 1, 2), (2, 1, 0))
        for wrong in NO_INTEGERS + (-1, 3):
            for i in range(2):
                for j in range(3):
                    spoilt = [list(row) for row in rows]
                    spoilt[i][j] = wrong
                    self.assertIs(is_matrix(tuple(tuple(row) for row in spoilt), 3, 3), False)


class Reducing(unittest.TestCase):
    def check_form(self, p, columns, reduced):
        self.assertTrue(is_matrix(reduced, p, columns))
        leads = []
        for row in reduced:
            self.assertTrue(any(row))
            leads.append(next(at for at, letter in enumerate(row) if letter))
        self.assertEqual(leads, sorted(set(leads)))
        for i, row in enumerate(reduced):
            for j, lead in enumerate(leads):
                self.assertEqual(row[lead], 1 if i == j else 0)
        return leads

    def test_small(self):
        for p, columns, rows in small_matrices():
            reduced = reduced_rows(p, rows)
            self.check_form(p, columns, reduced)
            spanned = span(p, rows, columns)
            self.assertEqual(span(p, reduced, columns), spanned)
            self.assertEqual(p ** len(reduced), len(spanned))
            self.assertEqual(rank_of(p, rows), len(reduced))
            self.assertEqual(reduced_rows(p, reduced), reduced)
            self.assertEqual(reduced_rows(p, rows[::-1]), reduced)

    def test_large(self):
        for p, columns, rows in large_matrices():
            reduced = reduced_rows(p=p, rows=rows)
            leads = self.check_form(p, columns, reduced)
            self.assertEqual(rank_of(p=p, rows=rows), len(reduced))
            for row in rows:
                self.assertEqual(combined(p, [row[lead] for lead in leads], reduced, columns), row)
            for row in reduced:
                self.assertEqual(combined(p, sum_to(p, rows, row), rows, columns), row)

    def test_by_hand(self):
        self.assertEqual(reduced_rows(5, ((0, 2, 4), (3, 1, 0), (3, 3, 4))), ((1, 0, 1), (0, 1, 2)))
        self.assertEqual(reduced_rows(2, ()), ())
        self.assertEqual(reduced_rows(2, ((), ())), ())
        self.assertEqual(rank_of(2, ((), ())), 0)
        self.assertEqual(rank_of(3, ((1, 2), (2, 1))), 1)


class Columns(unittest.TestCase):
    def test_without_columns(self):
        rng = random.Random(5)
        for p, columns, rows in small_matrices() + large_matrices():
            for _ in range(2):
                places = sorted(rng.sample(range(columns), rng.randint(0, columns)))
                told = tuple(tuple(letter for at, letter in enumerate(row) if at not in places) for row in rows)
                self.assertEqual(without_columns(p, rows, places), told)
                self.assertEqual(without_columns(p=p, rows=rows, places=tuple(places)), told)
        self.assertEqual(without_columns(2, ((1, 0), (0, 1)), (0, 1)), ((), ()))
        self.assertEqual(without_columns(2, ((1, 0), (0, 1)), ()), ((1, 0), (0, 1)))


class Sums(unittest.TestCase):
    def check_sum(self, p, columns, rows, row):
        letters = sum_to(p, rows, row)
        self.assertIs(type(letters), tuple)
        self.assertTrue(is_matrix((letters,), p, len(rows)))
        self.assertEqual(combined(p, letters, rows, columns), tuple(row))
        self.assertIs(in_span(p, rows, row), True)

    def check_none(self, p, rows, row):
        self.assertIs(in_span(p, rows, row), False)
        with self.assertRaises(Undefined) as caught:
            sum_to(p, rows, row)
        self.assertEqual(caught.exception.what, "sum")

    def test_small(self):
        rng = random.Random(9)
        for p, columns, rows in small_matrices():
            spanned = span(p, rows, columns)
            tried = [rng.choice(sorted(spanned)), (0,) * columns] + list(random_matrix(rng, p, 3, columns))
            for row in tried:
                if row in spanned:
                    self.check_sum(p, columns, rows, row)
                    self.check_sum(p, columns, rows, list(row))
                else:
                    self.check_none(p, rows, row)
                    self.check_none(p, rows, list(row))

    def test_every_row_of_two_letters(self):
        for p in (2, 3, 5):
            for rows in ((), ((0, 0),), ((1, 1),), ((0, 1), (0, p - 1)), ((1, 0), (1, 1))):
                for a in range(p):
                    for b in range(p):
                        if (a, b) in span(p, rows, 2):
                            self.check_sum(p, 2, rows, (a, b))
                        else:
                            self.check_none(p, rows, (a, b))

    def test_large(self):
        rng = random.Random(10)
        for p, columns, rows in large_matrices():
            self.check_sum(p, columns, rows, combined(p, [rng.randrange(p) for _ in rows], rows, columns))
            reduced = reduced_rows(p, rows)
            if len(reduced) < columns:
                leads = [row.index(1) for row in reduced]
                free = next(at for at in range(columns) if at not in leads)
                self.check_none(p, rows, tuple(int(at == free) for at in range(columns)))

    def test_the_edges(self):
        self.assertEqual(sum_to(2, (), ()), ())
        self.assertEqual(sum_to(p=2, rows=(), row=(0, 0)), ())
        self.assertEqual(len(sum_to(2, ((), ()), ())), 2)
        self.assertIs(in_span(p=2, rows=(), row=(0, 0)), True)
        self.check_none(2, (), (0, 1))


class ZeroRows(unittest.TestCase):
    def check_zero_rows(self, p, columns, rows):
        found = zero_rows(p, rows, columns)
        self.assertEqual(reduced_rows(p, found), found)
        self.assertTrue(is_matrix(found, p, columns))
        self.assertEqual(len(found) + rank_of(p, rows), columns)
        for x in found:
            for row in rows:
                self.assertEqual(sum(a * b for a, b in zip(row, x)) % p, 0)

    def test_small_and_large(self):
        for p, columns, rows in small_matrices() + large_matrices():
            self.check_zero_rows(p, columns, rows)

    def test_without_rows_all_are(self):
        for p in FIELDS:
            self.assertEqual(zero_rows(p, (), 3), ((1, 0, 0), (0, 1, 0), (0, 0, 1)))
            self.assertEqual(zero_rows(p=p, rows=(), columns=0), ())
            self.assertEqual(zero_rows(p, ((), ()), 0), ())

    def test_by_hand(self):
        self.assertEqual(zero_rows(3, ((1, 1, 1),), 3), ((1, 0, 2), (0, 1, 2)))
        self.assertEqual(zero_rows(5, ((1, 0), (0, 1)), 2), ())


class Products(unittest.TestCase):
    def test_products(self):
        rng = random.Random(12)
        for p, columns, rows in small_matrices() + large_matrices():
            letters = [rng.randrange(p) for _ in range(columns)]
            told = tuple(sum(a * b for a, b in zip(row, letters)) % p for row in rows)
            self.assertEqual(products(p, rows, letters), told)
            self.assertEqual(products(p=p, rows=rows, letters=tuple(letters)), told)
        self.assertEqual(products(7, ((1, 2), (3, 4)), (5, 6)), (3, 4))
        self.assertEqual(products(2, (), (1, 0)), ())
        self.assertEqual(products(2, ((), ()), ()), (0, 0))

    def test_matrix_product(self):
        rng = random.Random(13)
        for p, columns, rows in small_matrices() + large_matrices():
            for width in (0, 1, 4):
                if columns == 0:
                    continue
                others = random_matrix(rng, p, columns, width)
                told = tuple(combined(p, row, others, width) for row in rows)
                self.assertEqual(matrix_product(p, rows, others), told)
        self.assertEqual(matrix_product(p=5, rows=((1, 2), (3, 4)), others=((0, 1), (1, 1))), ((2, 3), (4, 2)))
        self.assertEqual(matrix_product(2, (), ((1, 0),)), ())
        self.assertEqual(matrix_product(2, ((1,), (0,)), ((),)), ((), ()))


if __name__ == "__main__":
    unittest.main()
