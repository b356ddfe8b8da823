"""Promise [33]: veiled points."""

import itertools
import random
import unittest

from tests.makingsamples import Checks
from tests.pointsamples import all_points, asks_by_hand, drawn, letters_by_hand, random_library, random_tape, spoilt
from tests.samples import NO_INTEGERS, nested
from tests.test_points import NO_LIBRARIES, wrong_rows
from wishunseen.errors import InvalidAnswers, InvalidLibrary, InvalidTape
from wishunseen.libraries import Library, every_library
from wishunseen.points import PointPlan
from wishunseen.veils import least_veiled


def random_common(rng, points):
    return [rng.randrange(points.p) for _ in range(points.together)]


class Veiled(Checks):
    def test_answers_by_the_words(self):
        rng, found = drawn(40)
        for points, wish, tape, library in found:
            common = random_common(rng, points)
            told = letters_by_hand(points, wish, tape, library, common)
            asks = points.asks(wish, tape)
            for house, ask in enumerate(asks):
                letter = points.veiled_answer(house, ask, library, common)
                self.assertIs(type(letter), int)
                self.assertEqual(letter, told[house])
                self.assertEqual(points.veiled_answer(house, list(ask), library, tuple(common)), letter)
                by_name = points.veiled_answer(common=common, library=library, ask=ask, house=house)
                self.assertEqual(by_name, letter)
                # Noughts veil nothing.
                self.assertEqual(
                    points.veiled_answer(house, ask, library, (0,) * points.together), points.answer(ask, library)
                )

    def test_an_answer_written_out(self):
        points = PointPlan(5, 3, 1, 2, 0, 0)
        # The product is 4 * 3; house 2 has the point 3, so that 1 + 2 * 3 is added.
        self.assertEqual(points.veiled_answer(2, (4,), Library(5, ((3,),)), (1, 2)), 4)

    def test_read_reads_them(self):
        rng, found = drawn(41)
        for points, wish, tape, library in found:
            letters = letters_by_hand(points, wish, tape, library, random_common(rng, points))
            for silent in range(points.silent + 1):
                for lying in range(points.lying + 1):
                    answers, liars = spoilt(rng, points, letters, silent, lying)
                    self.assertEqual(points.read(answers), (library.books[wish], liars))

    def test_nothing_else_is_told(self):
        rng = random.Random(42)
        for sizes in (
            (3, 2, 1, 1, 0, 0), (3, 2, 2, 1, 0, 0), (3, 2, 3, 1, 0, 0), (5, 3, 2, 2, 0, 0), (5, 4, 2, 1, 1, 0),
            (5, 4, 2, 2, 1, 0), (5, 4, 2, 1, 0, 1), (7, 4, 2, 3, 0, 0),
        ):
            points = PointPlan(*sizes)
            libraries = every_library(points.p, points.book_count, points.book_length)
            if len(libraries) > 81:
                libraries = rng.sample(libraries, 81)
            for wish in range(points.book_count):
                for tape in (random_tape(rng, points), (0,) * points.tape_length):
                    self.check_alike(points, wish, points.asks(wish, tape), libraries)

    def check_alike(self, points, wish, asks, libraries):
        """That libraries with the same wished book give the same rows of answers, over all common letters."""
        counts = {}
        for library in libraries:
            rows = {}
            for common in itertools.product(range(points.p), repeat=points.together):
                row = tuple(points.veiled_answer(n, ask, library, common) for n, ask in enumerate(asks))
                rows[row] = rows.get(row, 0) + 1
            self.assertEqual(counts.setdefault(library.books[wish], rows), rows)

    def test_without_a_veil_more_is_told(self):
        points = PointPlan(3, 2, 2, 1, 0, 0)
        told = set()
        for library in every_library(3, 2, 1):
            if library.books[0] == (1,):
                told.add(tuple(letters_by_hand(points, 0, (0, 1), library)))
        self.assertGreater(len(told), 1)

    def test_what_is_spent_is_the_least(self):
        for points in all_points():
            least = least_veiled(
                points.house_count, points.book_length, points.together, points.silent, points.lying
            )
            self.assertEqual(least, points.house_count)


class WrongArguments(Checks):
    def setUp(self):
        self.points = PointPlan(7, 6, 2, 2, 1, 0)
        self.library = random_library(random.Random(43), self.points)
        self.ask = asks_by_hand(self.points, 1, (1,) * self.points.tape_length)[0]

    def test_houses(self):
        for value in NO_INTEGERS + (6, -1, 10 ** 40, -10 ** 40, nested(10)):
            self.check_number(value, self.points.veiled_answer, value, self.ask, self.library, (0, 1))
            self.check_number(value, self.points.veiled_answer, value, None, None, None)

    def test_asks(self):
        for value in wrong_rows(7, 6):
            self.check_value(InvalidAnswers, value, self.points.veiled_answer, 0, value, self.library, (0, 1))
            self.check_value(InvalidAnswers, value, self.points.veiled_answer, 5, value, None, None)

    def test_libraries(self):
        for value in NO_LIBRARIES:
            self.check_value(InvalidLibrary, value, self.points.veiled_answer, 0, self.ask, value, [6, 0])
            self.check_value(InvalidLibrary, value, self.points.veiled_answer, 0, self.ask, value, [7, 0])

    def test_common_letters(self):
        for value in wrong_rows(7, 2):
            self.check_value(InvalidTape, value, self.points.veiled_answer, 3, self.ask, self.library, value)


if __name__ == "__main__":
    unittest.main()
