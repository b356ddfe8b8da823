"""Promise [34]: polynomials by their values."""

import itertools
import random
import unittest

from tests.makingsamples import Checks
from tests.samples import FIELDS, NO_FIELDS, nested
from wishunseen.decoding import polynomial_near, polynomial_through, value_at


def value_by_hand(p, coefficients, point):
    return sum(letter * point ** power for power, letter in enumerate(coefficients)) % p


def through_by_hand(p, points, values):
    """The polynomial by Lagrange's sum."""
    total = [0] * len(points)
    for at, (point, value) in enumerate(zip(points, values)):
        factors, bottom = [1], 1
        for other in points[:at] + points[at + 1:]:
            # Times (x - other).
            factors = [a - other * b for a, b in zip([0] + factors, factors + [0])]
            bottom = bottom * (point - other) % p
        scale = value * pow(bottom, -1, p)
        total = [(a + scale * b) % p for a, b in zip(total, factors)]
    return tuple(total)


def near_by_hand(p, points, values, size, wrong):
    """All polynomials of so many coefficients with at most so many wrong values, through each choice of points."""
    found = set()
    for chosen in itertools.combinations(range(len(points)), size):
        one = through_by_hand(p, [points[at] for at in chosen], [values[at] for at in chosen])
        if sum(value_by_hand(p, one, point) != value for point, value in zip(points, values)) <= wrong:
            found.add(one)
    return found


def sizes():
    """Pairs (size, wrong) for each number of points, up to twelve."""
    return [
        (count, size, wrong) for count in range(1, 13) for size in range(1, count + 1)
        for wrong in range((count - size) // 2 + 1)
    ]


class Through(Checks):
    def test_random_values(self):
        rng = random.Random(34)
        for p in FIELDS:
            for count in range(min(p, 12) + 1):
                for _ in range(4):
                    points = rng.sample(range(p), count)
                    values = [rng.randrange(p) for _ in points]
                    told = through_by_hand(p, points, values)
                    for found in (
                        polynomial_through(p, points, values), polynomial_through(p, tuple(points), tuple(values)),
                        polynomial_through(values=values, points=tuple(points), p=p),
                    ):
                        self.assertIs(type(found), tuple)
                        self.assertEqual(found, told)
                    self.assertEqual([value_by_hand(p, told, point) for point in points], values)

    def test_coefficients_are_found_again(self):
        rng = random.Random(35)
        for p in FIELDS:
            for count in range(min(p, 12) + 1):
                coefficients = tuple(rng.randrange(p) for _ in range(count))
                points = tuple(range(p))[-count:] if count else ()
                values = [value_at(p, coefficients, point) for point in points]
                self.assertEqual(polynomial_through(p, points, values), coefficients)

    def test_small_ones_by_trying_all(self):
        for p, count in ((2, 2), (3, 2), (3, 3), (5, 2)):
            for points in itertools.permutations(range(p), count):
                for values in itertools.product(range(p), repeat=count):
                    fit = [
                        letters for letters in itertools.product(range(p), repeat=count)
                        if [value_by_hand(p, letters, point) for point in points] == list(values)
                    ]
                    self.assertEqual([polynomial_through(p, points, values)], fit)

    def test_no_points(self):
        for p in FIELDS:
            self.assertEqual(polynomial_through(p, (), []), ())

    def test_arguments_stay(self):
        points, values = [4, 0, 2], [1, 3, 3]
        polynomial_through(5, points, values), value_at(5, values, 2)
        self.assertEqual(polynomial_near(5, points, values, 1, 1), (3,))
        self.assertEqual((points, values), ([4, 0, 2], [1, 3, 3]))

    def test_no_field(self):
        for value in NO_FIELDS + (nested(10),):
            self.check_number(value, polynomial_through, value, (), ())
            self.check_number(value, polynomial_through, value, [0, 1], [1, 1])
            self.check_number(value, value_at, value, (), 0)
            self.check_number(value, value_at, value, [1, 1], 1)
            self.check_number(value, polynomial_near, value, (0,), (1,), 1, 0)
            # Ahead of the error that there is no polynomial.
            self.check_number(value, polynomial_near, value, [0, 1], [0, 1], 1, 0)


class Values(Checks):
    def test_each_point(self):
        rng = random.Random(36)
        for p in FIELDS:
            for count in range(13):
                coefficients = [rng.randrange(p) for _ in range(count)]
                for point in range(p):
                    told = value_by_hand(p, coefficients, point)
                    for found in (value_at(p, coefficients, point), value_at(p, tuple(coefficients), point)):
                        self.assertIs(type(found), int)
                        self.assertEqual(found, told)
                    self.assertEqual(value_at(point=point, coefficients=coefficients, p=p), told)

    def test_named_values(self):
        self.assertEqual(value_at(7, (), 3), 0)
        self.assertEqual(value_at(7, (5,), 3), 5)
        self.assertEqual(value_at(7, [5, 2], 3), 4)
        self.assertEqual(value_at(31, (1, 0, 2), 30), 3)
        self.assertEqual(value_at(2, (1, 1, 1), 0), 1)
        self.assertEqual(polynomial_through(7, (0, 1, 2), (5, 5, 5)), (5, 0, 0))
        self.assertEqual(polynomial_through(5, [1, 2, 3], [1, 4, 4]), (0, 0, 1))


class Near(Checks):
    def check_near(self, p, points, values, size, wrong):
        """What is told, or None, as it is by hand."""
        told = near_by_hand(p, points, values, size, wrong)
        self.assertLessEqual(len(told), 1)
        if not told:
            self.check_undefined("polynomial", polynomial_near, p, points, values, size, wrong)
            return None
        found = polynomial_near(p, points, values, size, wrong)
        self.assertIs(type(found), tuple)
        self.assertEqual({found}, told)
        self.assertEqual(polynomial_near(p, tuple(points), tuple(values), size, wrong), found)
        self.assertEqual(polynomial_near(wrong=wrong, size=size, values=values, points=points, p=p), found)
        return found

    def test_as_many_wrong_values_as_told_and_fewer(self):
        rng = random.Random(37)
        for count, size, wrong in sizes():
            for p in FIELDS:
                if p < count:
                    continue
                coefficients = tuple(rng.randrange(p) for _ in range(size))
                points = rng.sample(range(p), count)
                for false in range(wrong + 1):
                    values = self.values(rng, p, coefficients, points, false)
                    self.assertEqual(polynomial_near(p, points, values, size, wrong), coefficients)

    def values(self, rng, p, coefficients, points, false):
        values = [value_by_hand(p, coefficients, point) for point in points]
        for at in rng.sample(range(len(points)), false):
            values[at] = (values[at] + rng.randrange(1, p)) % p
        return values

    def test_more_wrong_values(self):
        rng = random.Random(38)
        kinds = set()
        for count, size, wrong in sizes():
            p = rng.choice([p for p in FIELDS if p >= count])
            coefficients = tuple(rng.randrange(p) for _ in range(size))
            points = rng.sample(range(p), count)
            for false in range(wrong + 1, min(count, wrong + 3) + 1):
                found = self.check_near(p, points, self.values(rng, p, coefficients, points, false), size, wrong)
                kinds.add((found is None, found == coefficients))
        self.assertEqual(kinds, {(True, False), (False, False)})

    def test_random_values(self):
        rng = random.Random(39)
        for count, size, wrong in sizes():
            for p in [p for p in FIELDS if p >= count][:2]:
                points = rng.sample(range(p), count)
                self.check_near(p, points, [rng.randrange(p) for _ in points], size, wrong)

    def test_all_values_of_small_fields(self):
        for p, count, size, wrong in (
            (2, 1, 1, 0), (2, 2, 1, 0), (2, 2, 2, 0), (3, 3, 1, 1), (3, 3, 2, 0), (5, 4, 2, 1), (5, 5, 1, 2),
            (5, 3, 1, 1), (5, 5, 3, 1),
        ):
            told = set()
            for values in itertools.product(range(p), repeat=count):
                told.add(self.check_near(p, list(range(p))[-count:], list(values), size, wrong) is None)
            self.assertEqual(told, {False} if size == count else {True, False})

    def test_the_greatest_of_all(self):
        # Beyond the limit: choices of points would be far too many.
        rng = random.Random(40)
        coefficients = tuple(rng.randrange(31) for _ in range(9))
        points = list(range(31))
        values = self.values(rng, 31, coefficients, points, 11)
        self.assertEqual(polynomial_near(31, points, values, 9, 11), coefficients)


if __name__ == "__main__":
    unittest.main()
