"""Promises [36] and [37]: whether veiled plans are read, and veiled; the least of them."""

import random
import unittest
from fractions import Fraction

from tests.makingsamples import Checks, as_fraction
from tests.plansamples import draws_of, least_draws, linear_answer, rank_by_basis
from tests.samples import FIELDS, NO_FIELDS, NO_INTEGERS, nested, random_matrix
from tests.veilsamples import (
    alike_masks, bad_veils, drawn_veils, every_tape, good_veils, is_read_by_hand, is_veiled_by_hand, random_masks,
    rows_by_hand, veiled_answers_by_hand, veiled_points,
)
from wishunseen.accounts import spent_by
from wishunseen.hidden import first_seen
from wishunseen.leastplan import least_plan
from wishunseen.libraries import Library, every_library
from wishunseen.plans import Plan
from wishunseen.shares import Share
from wishunseen.sums import whole_plan
from wishunseen.veils import (
    VeiledPlan, first_unread_veiled, first_unveiled, least_veiled, veiled_least_plan, veiled_reader,
)

GOOD = good_veils()
TRIED = GOOD + bad_veils() + drawn_veils()
NO_SIZES = NO_INTEGERS + (0, -1, -10 ** 40, nested(10))


def wishes_and_draws(plan):
    return [(wish, draw) for wish in range(plan.book_count) for draw in range(len(plan.draws))]


def firsts_by_hand(veiled):
    """The first wish and draw that are not read, and the first that are not veiled."""
    read, told = None, None
    for wish, draw in wishes_and_draws(veiled.plan):
        found = rows_by_hand(veiled, wish, draw)
        if read is None and not is_read_by_hand(wish, found):
            read = (wish, draw)
        if told is None and not is_veiled_by_hand(wish, found):
            told = (wish, draw)
    return read, told


class Judging(Checks):
    def test_against_all_libraries_and_tapes(self):
        kinds = {}
        for veiled in TRIED:
            unread, unveiled = firsts_by_hand(veiled)
            self.check_unread(veiled, unread)
            self.check_unveiled(veiled, unveiled)
            kind = (unread is None, unveiled is None)
            kinds[kind] = kinds.get(kind, 0) + 1
            kinds[unread is not None and unread[1] > 0, "later"] = True
            kinds[unveiled is not None and unveiled[1] > 0, "veiled later"] = True
        self.assertGreaterEqual(kinds[True, True], len(GOOD))
        self.assertGreater(min(kinds[kind] for kind in ((True, False), (False, True), (False, False))), 3)
        self.assertTrue(kinds[True, "later"] and kinds[True, "veiled later"])

    def check_unread(self, veiled, unread):
        found = first_unread_veiled(veiled)
        self.assertEqual(first_unread_veiled(veiled=veiled), found)
        if unread is None:
            self.assertIsNone(found)
            return
        self.assertIs(type(found), tuple)
        wish, draw, one, other = found
        self.assertEqual((wish, draw), unread)
        asked = veiled.plan.asked(wish, draw)
        for pair in (one, other):
            self.check_pair(veiled, pair)
        self.assertEqual(
            veiled_answers_by_hand(veiled, asked, *one), veiled_answers_by_hand(veiled, asked, *other)
        )
        self.assertNotEqual(one[0].books[wish], other[0].books[wish])

    def check_pair(self, veiled, pair):
        self.assertIs(type(pair), tuple)
        library, tape = pair
        self.check_library(veiled.plan, library)
        self.assertIs(type(tape), tuple)
        self.assertIn(tape, every_tape(veiled))

    def check_library(self, plan, library):
        self.assertIs(type(library), Library)
        sizes = [(each.p, each.book_count, each.book_length) for each in (library, plan)]
        self.assertEqual(sizes[0], sizes[1])

    def check_unveiled(self, veiled, unveiled):
        found = first_unveiled(veiled)
        self.assertEqual(first_unveiled(veiled=veiled), found)
        if unveiled is None:
            self.assertIsNone(found)
            return
        self.assertIs(type(found), tuple)
        wish, draw, one, other = found
        self.assertEqual((wish, draw), unveiled)
        rows = []
        for library in (one, other):
            self.check_library(veiled.plan, library)
            rows.append(sorted(
                veiled_answers_by_hand(veiled, veiled.plan.asked(wish, draw), library, tape)
                for tape in every_tape(veiled)
            ))
        self.assertEqual(one.books[wish], other.books[wish])
        self.assertNotEqual(rows[0], rows[1])

    def test_masks_that_cancel_each_other(self):
        for veiled in GOOD:
            self.assertIsNone(first_unread_veiled(veiled))
            self.assertIsNone(first_unveiled(veiled))

    def test_a_plan_without_masks_is_not_veiled(self):
        for plan in (least_plan(2, 2, 2), least_plan(3, 3, 2), whole_plan(2, 2, 2, 1, 0)):
            veiled = VeiledPlan(plan, 1, alike_masks(plan, (0,)))
            self.assertIsNone(first_unread_veiled(veiled))
            self.assertEqual(first_unveiled(veiled)[:2], firsts_by_hand(veiled)[1])

    def test_a_mask_alone_hides_the_book(self):
        plan = whole_plan(2, 2, 1, 1, 0)
        veiled = VeiledPlan(plan, 1, alike_masks(plan, (1,)))
        self.assertEqual(first_unread_veiled(veiled)[:2], (0, 0))
        self.assertIsNone(first_unveiled(veiled))
        self.check_undefined("reader", veiled_reader, veiled, 0, 0)

    def test_great_veils(self):
        """What is veiled by its making, too great to be tried out."""
        for veiled in (
            veiled_points(5, 3, 1, 2, 0, 0), veiled_points(5, 4, 1, 3, 0, 0), veiled_points(31, 6, 1, 1, 0, 2),
            veiled_points(13, 6, 2, 1, 4, 0), veiled_least_plan(31, 3, 3), veiled_least_plan(2, 6, 3),
            veiled_least_plan(3, 4, 4),
        ):
            self.assertIsNone(first_unread_veiled(veiled))
            self.assertIsNone(first_unveiled(veiled))
        plan = whole_plan(31, 6, 4, 6, 5)
        veiled = VeiledPlan(plan, 3, random_masks(random.Random(1), plan, 3))
        self.assertEqual(first_unread_veiled(veiled)[:2], (0, 0))
        self.assertEqual(first_unveiled(veiled)[:2], (0, 0))


class Readers(Checks):
    def test_each_wish_and_draw(self):
        told = set()
        for veiled in TRIED:
            plan = veiled.plan
            for wish, draw in wishes_and_draws(plan):
                is_read = is_read_by_hand(wish, rows_by_hand(veiled, wish, draw))
                told.add(is_read)
                if is_read:
                    self.check_reader(veiled, wish, draw, veiled_reader(veiled, wish, draw))
                else:
                    self.check_undefined("reader", veiled_reader, veiled, wish, draw)
        self.assertEqual(told, {True, False})

    def check_reader(self, veiled, wish, draw, matrix):
        plan = veiled.plan
        asked = plan.asked(wish, draw)
        width = len(plan.asked_rows(wish, draw))
        self.assertTrue(type(matrix) is tuple and all(type(row) is tuple for row in matrix))
        self.assertEqual([len(row) for row in matrix], [width] * plan.book_length)
        self.assertTrue(all(type(letter) is int and 0 <= letter < plan.p for row in matrix for letter in row))
        for library in every_library(plan.p, plan.book_count, plan.book_length):
            for tape in every_tape(veiled):
                letters = [a for answer in veiled_answers_by_hand(veiled, asked, library, tape) for a in answer]
                self.assertEqual(linear_answer(plan.p, matrix, letters), library.books[wish])

    def test_great_readers(self):
        rng = random.Random(36)
        for veiled in (veiled_least_plan(31, 4, 3), veiled_points(31, 6, 1, 1, 0, 2), veiled_points(7, 4, 2, 1, 2, 0)):
            plan = veiled.plan
            for wish in range(plan.book_count):
                draw = rng.randrange(len(plan.draws))
                matrix = veiled_reader(draw=draw, wish=wish, veiled=veiled)
                for _ in range(20):
                    library = Library(plan.p, random_matrix(rng, plan.p, plan.book_count, plan.book_length))
                    tape = [rng.randrange(plan.p) for _ in range(veiled.common)]
                    letters = []
                    for house, question in enumerate(plan.asked(wish, draw)):
                        letters.extend(veiled.answer(house, question, library, tape))
                    self.assertEqual(linear_answer(plan.p, matrix, letters), library.books[wish])

    def test_wishes_and_draws_that_are_none(self):
        plan = whole_plan(2, 2, 2, 1, 0)
        for mask in ((0,), (1,)):
            veiled = VeiledPlan(plan, 1, alike_masks(plan, mask))
            for value in NO_INTEGERS + (2, -1, 10 ** 40, nested(10)):
                self.check_number(value, veiled_reader, veiled, value, 0)
                self.check_number(value, veiled_reader, veiled, value, None)
            for value in NO_INTEGERS + (1, -1, 10 ** 40, nested(10)):
                self.check_number(value, veiled_reader, veiled, 1, value)
        self.check_undefined("reader", veiled_reader, veiled, 1, 0)


class LeastVeiled(Checks):
    def test_by_the_words(self):
        for houses in range(1, 12):
            for length in (1, 2, 7, 60):
                for silent in range(houses):
                    for lying in range(houses // 2 + 1):
                        left = houses - silent - 2 * lying
                        for together in range(1, left):
                            found = least_veiled(houses, length, together, silent, lying)
                            self.assertIs(type(found), Share)
                            self.assertEqual(as_fraction(found), Fraction(length * houses, left - together))
                        for together in (left, left + 1):
                            self.check_number(together, least_veiled, houses, length, together, silent, lying)
        self.assertEqual(str(least_veiled(60, 60, 1, 40, 9)), "3600")

    def test_defaults_and_names(self):
        self.assertEqual(str(least_veiled(3, 2)), "3")
        self.assertEqual(str(least_veiled(5, 2)), "5/2")
        self.assertEqual(str(least_veiled(5, 2, 2)), "10/3")
        self.assertEqual(str(least_veiled(5, 2, 2, 1)), "5")
        self.assertEqual(str(least_veiled(9, 2, 2, 1, 2)), "9")
        found = least_veiled(lying=1, silent=2, together=2, book_length=3, house_count=8)
        self.assertEqual(str(found), "12")
        self.assertEqual(str(least_veiled(6, 1, lying=1)), "2")

    def test_each_wrong_number_in_its_order(self):
        for value in NO_SIZES:
            self.check_number(value, least_veiled, value, 2)
            self.check_number(value, least_veiled, value, value, value, value, value)
            self.check_number(value, least_veiled, value, 0, 0, -1, -1)
            self.check_number(value, least_veiled, 6, value)
            self.check_number(value, least_veiled, 6, value, value, value, value)
            self.check_number(value, least_veiled, 6, value, 0, -1, -1)
        for value in NO_INTEGERS + (-1, -10 ** 40, nested(10)):
            self.check_number(value, least_veiled, 6, 2, 1, value)
            self.check_number(value, least_veiled, 6, 2, 0, value, value)
            self.check_number(value, least_veiled, 6, 2, 1, 1, value)
            self.check_number(value, least_veiled, 6, 2, 0, 0, value)
        for value in NO_SIZES + (10 ** 40, 2):
            self.check_number(value, least_veiled, 6, 2, value, 2, 1)
            # With nothing left, no number of houses is let.
            self.check_number(value, least_veiled, 6, 2, value, 10, 1)
        self.check_number(1, least_veiled, 1, 2)
        self.check_number(1, least_veiled, 3, 1, 1, 10 ** 40)

    def test_no_veiled_plan_spends_less(self):
        judged = 0
        for veiled in TRIED:
            plan = veiled.plan
            if plan.book_count < 2 or first_unread_veiled(veiled) or first_unveiled(veiled):
                continue
            for together in range(1, plan.house_count + 1):
                if first_seen(plan, together) is None:
                    self.assertLess(together, plan.house_count)
                    least = least_veiled(plan.house_count, plan.book_length, together)
                    self.assertFalse(spent_by(plan, 0).below(least))
                    judged += 1
        self.assertGreater(judged, 6)


class VeiledLeastPlans(Checks):
    def check_words(self, p, houses, books):
        veiled = veiled_least_plan(p, houses, books)
        noughts = ((0,) * ((houses - 1) * books),)
        draws = [
            (weight, [[question or noughts for question in asked] for asked in asks])
            for weight, asks in least_draws(houses, books)
        ]
        plan = Plan.made(p, houses - 1, books, houses, draws)
        self.assertIs(type(veiled), VeiledPlan)
        self.assertEqual(veiled.plan, plan)
        self.assertEqual(draws_of(veiled.plan), [(weight, [list(asked) for asked in asks]) for weight, asks in draws])
        self.assertEqual(veiled.common, 1)
        self.assertEqual(veiled.masks, tuple((((1,),),) * len(known) for known in plan.questions))
        return veiled

    def test_each_size(self):
        for houses in range(2, 7):
            for books in range(1, 5):
                veiled = self.check_words((2, 3, 31)[(houses + books) % 3], houses, books)
                for wish in range(books):
                    self.assertEqual(spent_by(veiled.plan, wish), least_veiled(houses, houses - 1))
                    self.assertEqual(spent_by(veiled.plan, wish), houses)

    def test_each_field(self):
        for p in FIELDS:
            veiled = self.check_words(p, 2, 2)
            self.assertIsNone(first_unread_veiled(veiled))
            self.assertIsNone(first_unveiled(veiled))
            self.assertIsNone(first_seen(veiled.plan))
        by_name = veiled_least_plan(book_count=2, house_count=2, p=31)
        self.assertEqual((by_name.plan, by_name.masks), (veiled.plan, veiled.masks))

    def test_right_and_veiled(self):
        for p, houses, books in (
            (2, 2, 1), (2, 2, 4), (3, 3, 2), (5, 2, 3), (2, 3, 3), (7, 4, 2), (2, 6, 2), (3, 5, 1),
        ):
            veiled = veiled_least_plan(p, houses, books)
            self.assertIsNone(first_unread_veiled(veiled))
            self.assertIsNone(first_unveiled(veiled))
            self.assertIsNone(first_seen(veiled.plan))
            rows = [row for known in veiled.plan.questions for question in known for row in question]
            self.assertLessEqual(rank_by_basis(p, rows), (houses - 1) * books)

    def test_each_wrong_number(self):
        for value in NO_FIELDS + (nested(10),):
            self.check_number(value, veiled_least_plan, value, 2, 2)
            self.check_number(value, veiled_least_plan, value, value, value)
        for value in NO_SIZES + (1, 7, 10 ** 40):
            self.check_number(value, veiled_least_plan, 2, value, 2)
            self.check_number(value, veiled_least_plan, 2, value, value)
        for value in NO_SIZES + (5, 10 ** 40):
            self.check_number(value, veiled_least_plan, 2, 3, value)


if __name__ == "__main__":
    unittest.main()
