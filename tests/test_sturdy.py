"""Promise [19]: sturdy plans, read with houses that are silent or lie."""

import itertools
import unittest

from tests.plansamples import (
    answers_by_hand, copies_sample, groups_of_answers, judged_plans, least_sample, points_sample, sums_sample,
)
from tests.samples import NO_INTEGERS, nested
from wishunseen.errors import InvalidNumber, Undefined
from wishunseen.libraries import Library, every_library
from wishunseen.plans import Plan
from wishunseen.right import first_shaken, first_unread
from wishunseen.tables import TablePlan, as_table

JUDGED = [plan for plan in judged_plans() if len(plan.draws) <= 9] + [
    copies_sample(2, 4, 2, 1), copies_sample(2, 5, 1, 1), as_table(copies_sample(2, 4, 1, 2)),
]


def first_by_hand(plan, left):
    """The first wish, draw and lot by which libraries of like answers have unlike books."""
    for wish in range(plan.book_count):
        for draw in range(len(plan.draws)):
            for lot in itertools.combinations(range(plan.house_count), left):
                if any(len(books) > 1 for books in groups_of_answers(plan, wish, draw, lot).values()):
                    return (wish, draw, lot)
    return None


def bearable(plan):
    """All pairs of silent and lying with a house left."""
    return [
        (silent, lying) for silent in range(plan.house_count) for lying in range(plan.house_count)
        if silent + 2 * lying < plan.house_count
    ]


def can_be_told(plan, silent, lying):
    """Whether no answers, so many left out and so many changed, fit libraries with unlike books wish."""
    libraries = every_library(plan.p, plan.book_count, plan.book_length)
    for wish, draw in itertools.product(range(plan.book_count), range(len(plan.draws))):
        answers = [answers_by_hand(plan, plan.draws[draw][1][wish], library) for library in libraries]
        for one, other in itertools.combinations(range(len(libraries)), 2):
            if libraries[one].books[wish] != libraries[other].books[wish]:
                unlike = sum(a != b for a, b in zip(answers[one], answers[other]))
                # All unlike ones silent, or told half by the one and half by the other.
                if unlike <= silent + 2 * lying:
                    return False
    return True


class Sturdy(unittest.TestCase):
    def check(self, plan, silent, lying):
        """Whether the plan is sturdy, as told and as tried out."""
        told = first_shaken(plan, silent, lying)
        self.assertEqual(first_shaken(lying=lying, silent=silent, plan=plan), told)
        first = first_by_hand(plan, plan.house_count - silent - 2 * lying)
        if first is None:
            self.assertIsNone(told)
            return True
        self.assertEqual(told[:3], first)
        self.assertTrue(type(told) is tuple and len(told) == 5)
        wish, draw, lot, one, other = told
        asked = plan.draws[draw][1][wish]
        for house in lot:
            self.assertEqual(answers_by_hand(plan, asked, one)[house], answers_by_hand(plan, asked, other)[house])
        for library in (one, other):
            self.assertIs(type(library), Library)
            plan.answers(wish, draw, library)
        self.assertNotEqual(one.books[wish], other.books[wish])
        return False

    def test_all_lots_and_libraries(self):
        for kind in (Plan, TablePlan):
            told = [
                self.check(plan, silent, lying)
                for plan in JUDGED if isinstance(plan, kind) for silent, lying in bearable(plan)
            ]
            self.assertGreater(told.count(True), 20)
            self.assertGreater(told.count(False), 100)

    def test_as_right_with_all_houses(self):
        for plan in JUDGED:
            told, unread = first_shaken(plan, 0, 0), first_unread(plan)
            if unread is None:
                self.assertIsNone(told)
            else:
                self.assertEqual(told[:3], (*unread[:2], tuple(range(plan.house_count))))

    def test_just_if_the_book_can_be_told(self):
        told = []
        for plan in JUDGED:
            for silent, lying in bearable(plan):
                told.append(can_be_told(plan, silent, lying))
                self.assertIs(first_shaken(plan, silent, lying) is None, told[-1])
        self.assertGreater(min(told.count(True), told.count(False)), 40)

    def test_named_plans(self):
        copies = copies_sample(3, 4, 2, 1)
        for each in (copies, as_table(copies)):
            for silent, lying in ((0, 0), (3, 0), (1, 1), (0, 1)):
                self.assertIsNone(first_shaken(each, silent, lying))
        points = points_sample(5, 4)
        for silent, lying in ((0, 0), (2, 0), (1, 0), (0, 1)):
            self.assertIsNone(first_shaken(points, silent, lying))
        for silent, lying, left in ((3, 0, 1), (1, 1, 1)):
            wish, draw, lot, _, _ = first_shaken(points, silent, lying)
            self.assertEqual((wish, len(lot)), (0, left))
        for plan, lot in ((sums_sample(2, 3, 2), (0, 1)), (least_sample(2, 3, 2), (0, 1))):
            self.assertEqual(first_shaken(plan, 1, 0)[:3], (0, 0, lot))


class Wrong(unittest.TestCase):
    plans = (copies_sample(2, 3, 2, 1), as_table(copies_sample(2, 3, 2, 1)))

    def test_numbers(self):
        for plan in self.plans:
            for value in NO_INTEGERS + (-1, -10 ** 40, nested(10)):
                pairs = [(value, other) for other in (value, 0, 10 ** 40)]
                for arguments in pairs + [(other, value) for other in (0, 3, 10 ** 40)]:
                    with self.assertRaises(InvalidNumber) as caught:
                        first_shaken(plan, *arguments)
                    self.assertIs(caught.exception.value, value)

    def test_no_house_left(self):
        for plan in self.plans:
            for silent, lying in ((3, 0), (1, 1), (0, 2), (4, 0), (10 ** 40, 0), (0, 10 ** 40), (2, 1)):
                with self.assertRaises(Undefined) as caught:
                    first_shaken(plan, silent, lying)
                self.assertEqual(caught.exception.what, "houses")
            for silent, lying in ((2, 0), (0, 1)):
                self.assertIsNone(first_shaken(plan, silent, lying))


if __name__ == "__main__":
    unittest.main()
