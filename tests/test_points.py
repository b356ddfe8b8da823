"""Promises [31] and [32]: plans by points."""

import itertools
import random
import unittest
from fractions import Fraction

from tests.makingsamples import Checks, as_fraction, parts_by_hand
from tests.plansamples import NO_SEQUENCES
from tests.pointsamples import (
    SIZES, all_points, asks_by_hand, drawn, letters_by_hand, random_library, random_tape, spoilt,
)
from tests.samples import NO_FIELDS, NO_INTEGERS, nested
from tests.test_decoding import near_by_hand
from wishunseen.accounts import least_mean
from wishunseen.errors import InvalidAnswers, InvalidLibrary, InvalidTape
from wishunseen.hidden import first_seen
from wishunseen.libraries import Library
from wishunseen.points import PointPlan
from wishunseen.right import first_shaken, first_unread
from wishunseen.shares import Share

NO_LIBRARIES = NO_INTEGERS + (
    Library(7, ((1, 1), (1, 1))), Library(5, ((1,), (1,))), Library(5, ((1, 1),)), Library(5, ((1, 1),) * 3),
    nested(10),
)
# Sizes of plans with at most 256 tapes.
FEW_TAPES = (
    (3, 2, 1, 1, 0, 0), (3, 2, 2, 1, 0, 0), (3, 2, 4, 1, 0, 0), (5, 3, 1, 1, 0, 0), (5, 3, 1, 2, 0, 0),
    (5, 3, 1, 1, 1, 0), (5, 4, 2, 1, 2, 0), (5, 4, 1, 1, 0, 1), (7, 5, 1, 2, 0, 1), (7, 4, 2, 1, 2, 0),
    (11, 6, 1, 2, 3, 0), (13, 6, 1, 1, 2, 1), (31, 6, 1, 1, 0, 2),
)
NAMES = ("p", "house_count", "book_count", "together", "silent", "lying")


def wrong_rows(p, length):
    """What is no sequence of so many letters."""
    right = (p - 1,) * length
    return NO_SEQUENCES + (
        right[1:], (*right, 0), list(right) + [1], (*right[1:], p), (-1, *right[1:]), (True, *right[1:]),
        (*right[1:], None), (*right[1:], "0"), ((0,), *right[1:]), [*right[1:], [0]], nested(10), (right,), {}, (),
        "0" * length, range(length), {at: 0 for at in range(length)}, (*right[1:], 10 ** 40),
    )


class Making(Checks):
    def test_attributes(self):
        for sizes in SIZES:
            p, houses, books, together, silent, lying = sizes
            for points in (PointPlan(*sizes), PointPlan(**dict(zip(NAMES, sizes)))):
                self.assertEqual(tuple(vars(points)[name] for name in NAMES), sizes)
                self.assertEqual(points.book_length, houses - silent - 2 * lying - together)
                self.assertEqual(points.tape_length, books * points.book_length * together)

    def test_each_wrong_argument(self):
        right = (7, 6, 2, 2, 1, 1)
        for value in NO_FIELDS + (2, 3, 5, nested(10)):
            self.wrong(right, 0, value)
        for value in NO_INTEGERS + (0, -1, 10 ** 40, -10 ** 40, nested(10)):
            self.wrong(right, 1, value)
            self.wrong(right, 3, value)
        for value in NO_INTEGERS + (0, -1, -10 ** 40, nested(10)):
            self.wrong(right, 2, value)
        for value in NO_INTEGERS + (-1, 10 ** 40, -10 ** 40, nested(10)):
            self.wrong(right, 4, value)
            self.wrong(right, 5, value)
        for at, value in ((1, 5), (1, 7), (1, 8), (3, 3), (4, 2), (5, 2)):
            self.wrong(right, at, value)
        self.check_plan("points", 0, PointPlan, *[None] * 6)

    def wrong(self, right, at, value):
        self.check_plan("points", 0, PointPlan, *right[:at], value, *right[at + 1:])

    def test_small_sizes_by_the_words(self):
        right = 0
        every = itertools.product((2, 3, 5), range(6), range(-1, 5), range(4), range(3))
        for p, houses, together, silent, lying in every:
            length = houses - silent - 2 * lying - together
            if houses > 0 and together > 0 and houses < p and length > 0:
                self.assertEqual(PointPlan(p, houses, 1, together, silent, lying).book_length, length)
                right += 1
            else:
                self.check_plan("points", 0, PointPlan, p, houses, 1, together, silent, lying)
        self.assertGreater(right, 10)

    def test_many_books(self):
        for points, length in ((PointPlan(3, 2, 120, 1, 0, 0), 120), (PointPlan(31, 10, 24, 5, 0, 2), 120)):
            self.assertEqual(points.tape_length, length)
            rng = random.Random(1)
            wish, tape, library = points.book_count - 1, random_tape(rng, points), random_library(rng, points)
            asks = points.asks(wish, tape)
            self.assertEqual(asks, asks_by_hand(points, wish, tape))
            answers = [points.answer(ask, library) for ask in asks]
            self.assertEqual(points.read(answers), (library.books[wish], ()))


class Asking(Checks):
    def test_asks_by_the_words(self):
        for points, _, tape, _ in drawn(31)[1]:
            for wish in range(points.book_count):
                asks = points.asks(wish, tape)
                self.assertEqual(asks, asks_by_hand(points, wish, tape))
                self.assertTrue(type(asks) is tuple and all(type(row) is tuple for row in asks))
                self.assertEqual(points.asks(tape=list(tape), wish=wish), asks)

    def test_asks_written_out(self):
        points = PointPlan(5, 3, 2, 1, 0, 0)
        self.assertEqual((points.book_length, points.tape_length), (2, 4))
        self.assertEqual(points.asks(1, (1, 2, 3, 4)), ((1, 2, 4, 0), (1, 2, 0, 3), (1, 2, 1, 3)))
        self.assertEqual(points.answer((1, 2, 4, 0), Library(5, ((1, 2), (3, 4)))), 2)

    def test_wishes_and_tapes_that_are_none(self):
        for points in all_points()[:12]:
            tape = (0,) * points.tape_length
            for value in NO_INTEGERS + (-1, points.book_count, 10 ** 40, nested(10)):
                self.check_number(value, points.asks, value, tape)
                self.check_number(value, points.asks, value, None)
            for value in wrong_rows(points.p, points.tape_length):
                self.check_value(InvalidTape, value, points.asks, 0, value)

    def test_answers_by_the_words(self):
        for points, wish, tape, library in drawn(32)[1]:
            letters = letters_by_hand(points, wish, tape, library)
            asks = points.asks(wish, tape)
            self.assertEqual([points.answer(ask, library) for ask in asks], letters)
            self.assertEqual([points.answer(library=library, ask=list(ask)) for ask in asks], letters)

    def test_asks_that_are_none(self):
        for points in all_points()[:12]:
            library = random_library(random.Random(2), points)
            for value in wrong_rows(points.p, points.book_count * points.book_length):
                self.check_value(InvalidAnswers, value, points.answer, value, library)
                self.check_value(InvalidAnswers, value, points.answer, value, None)

    def test_libraries_that_are_none(self):
        points = PointPlan(5, 3, 2, 1, 0, 0)
        for value in NO_LIBRARIES:
            self.check_value(InvalidLibrary, value, points.answer, (0, 1, 2, 3), value)

    def test_nothing_changes(self):
        points = PointPlan(7, 6, 2, 1, 1, 1)
        before = dict(vars(points))
        tape, library = [1] * points.tape_length, random_library(random.Random(3), points)
        asks = points.asks(0, tape)
        answers = [points.answer(ask, library) for ask in asks]
        points.read(answers), points.excess(), points.veiled_answer(0, list(asks[0]), library, [1])
        self.assertEqual(vars(points), before)
        self.assertEqual((tape, len(answers)), ([1] * points.tape_length, 6))


class Reading(Checks):
    def test_silent_and_lying_houses(self):
        rng, found = drawn(33)
        for points, wish, tape, library in found:
            letters = letters_by_hand(points, wish, tape, library)
            for silent in range(points.silent + 1):
                for lying in range(points.lying + 1):
                    answers, liars = spoilt(rng, points, letters, silent, lying)
                    for told in (answers, tuple(answers)):
                        self.assertEqual(points.read(told), (library.books[wish], liars))
                    self.assertEqual(points.read(answers=answers), (library.books[wish], liars))

    def test_more_silent_houses_than_told(self):
        rng, found = drawn(34)
        for points, wish, tape, library in found:
            letters = letters_by_hand(points, wish, tape, library)
            for silent in range(points.silent + 1, points.house_count + 1):
                answers, _ = spoilt(rng, points, letters, silent, 0)
                self.check_undefined("book", points.read, answers)

    def test_letters_of_no_polynomial(self):
        rng, found = drawn(35)
        told = {True: 0, False: 0}
        for points, wish, tape, library in found:
            letters = letters_by_hand(points, wish, tape, library)
            size = points.together + points.book_length
            for silent in range(points.silent + 1):
                for more in (1, 2):
                    lying = min(points.lying + more, points.house_count - silent)
                    answers, _ = spoilt(rng, points, letters, silent, lying)
                    heard = [house for house in range(points.house_count) if answers[house] is not None]
                    known = [answers[house] for house in heard]
                    fit = near_by_hand(points.p, [house + 1 for house in heard], known, size, points.lying)
                    told[bool(fit)] += 1
                    if not fit:
                        self.check_undefined("book", points.read, answers)
                        continue
                    (polynomial,) = fit
                    liars = tuple(
                        house for house in heard
                        if sum(c * (house + 1) ** i for i, c in enumerate(polynomial)) % points.p != answers[house]
                    )
                    self.assertEqual(points.read(answers), (polynomial[points.together:], liars))
        self.assertGreater(min(told.values()), 20)

    def test_all_answers_of_small_plans(self):
        for sizes in ((3, 2, 2, 1, 0, 0), (5, 3, 1, 1, 1, 0), (5, 4, 1, 1, 0, 1), (5, 4, 1, 1, 1, 0)):
            points = PointPlan(*sizes)
            polynomials = list(itertools.product(range(points.p), repeat=points.together + points.book_length))
            places = range(1, points.house_count + 1)
            values = {
                one: [sum(c * x ** i for i, c in enumerate(one)) % points.p for x in places] for one in polynomials
            }
            for answers in itertools.product((None, *range(points.p)), repeat=points.house_count):
                told = None
                if answers.count(None) <= points.silent:
                    for one, letters in values.items():
                        liars = tuple(
                            n for n, (a, b) in enumerate(zip(answers, letters)) if a is not None and a != b
                        )
                        if len(liars) <= points.lying:
                            self.assertIsNone(told)
                            told = (one[points.together:], liars)
                if told is None:
                    self.check_undefined("book", points.read, answers)
                else:
                    self.assertEqual(points.read(answers), told)

    def test_rows_of_answers_that_are_none(self):
        for points in all_points()[:12]:
            for value in wrong_rows(points.p, points.house_count):
                if type(value) not in (tuple, list) or value.count(None) == 0 or len(value) != points.house_count:
                    self.check_value(InvalidAnswers, value, points.read, value)
        points = PointPlan(5, 4, 2, 1, 1, 0)
        for value in (
            (None, None, None), (None,) * 5, (None, 0, 1, 5), [None, 0, 1, -1], (None, 0, 1, False), (None, (), 1, 1),
            ((0, 1, 2, 3),), ((0,), (1,), (2,), (3,)), (0, 1, 2, Share(1)), (0, 1, 2, "3"), 4,
        ):
            self.check_value(InvalidAnswers, value, points.read, value)
        # Silent houses are no wrong answers, however many they are.
        self.check_undefined("book", points.read, (None,) * 4)
        self.check_undefined("book", points.read, [None, 0, None, 1])


class Accounts(Checks):
    def test_excess(self):
        for points in all_points():
            left = points.house_count - points.silent - 2 * points.lying
            told = points.house_count * Fraction(points.together, left) ** points.book_count
            self.assertIs(type(points.excess()), Share)
            self.assertEqual(as_fraction(points.excess()), told)
            least = least_mean(
                points.house_count, points.book_count, points.book_length, points.together, points.silent, points.lying
            )
            self.assertEqual(points.excess() + least, points.house_count)

    def test_as_plan_of_few_tapes(self):
        for points in [PointPlan(*sizes) for sizes in FEW_TAPES]:
            plan = points.as_plan()
            tapes = itertools.product(range(points.p), repeat=points.tape_length)
            self.check_parts(plan, parts_by_hand(
                points.p, points.book_length, points.book_count, points.house_count, [
                    (1, [[(row,) for row in asks_by_hand(points, wish, tape)] for wish in range(points.book_count)])
                    for tape in tapes
                ],
            ))
            self.assertIsNone(first_unread(plan))
            self.assertIsNone(first_shaken(plan, points.silent, points.lying))
            for together in range(1, points.together + 1):
                self.assertIsNone(first_seen(plan, together))
            if points.book_count > 1 and points.house_count > points.together:
                self.assertIsNotNone(first_seen(plan, points.together + 1))

    def test_rows_come_from_as_many_tapes(self):
        for sizes in ((3, 2, 3, 1, 0, 0), (5, 3, 1, 2, 0, 0), (5, 4, 1, 2, 1, 0), (7, 5, 1, 2, 0, 1)):
            points = PointPlan(*sizes)
            for lot in itertools.combinations(range(points.house_count), points.together):
                counts = []
                for wish in range(points.book_count):
                    seen = {}
                    for tape in itertools.product(range(points.p), repeat=points.tape_length):
                        asks = points.asks(wish, tape)
                        row = tuple(asks[house] for house in lot)
                        seen[row] = seen.get(row, 0) + 1
                    counts.append(seen)
                self.assertTrue(all(seen == counts[0] for seen in counts))

    def test_as_plan_of_as_many_tapes_as_there_may_be(self):
        # No power of an odd prime is 256: 243 are the most, and 289 the fewest that are more.
        self.assertEqual(len(PointPlan(3, 2, 5, 1, 0, 0).as_plan().draws), 243)
        self.assertEqual(len(PointPlan(13, 2, 2, 1, 0, 0).as_plan().draws), 169)
        for sizes in (
            (17, 2, 2, 1, 0, 0), (3, 2, 6, 1, 0, 0), (7, 4, 3, 1, 2, 0), (5, 3, 2, 1, 0, 0), (31, 10, 8, 1, 0, 0),
        ):
            self.check_undefined("plan", PointPlan(*sizes).as_plan)
        self.check_undefined("plan", PointPlan(31, 10, 10 ** 30, 1, 0, 0).as_plan)


if __name__ == "__main__":
    unittest.main()
