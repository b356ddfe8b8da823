"""Promise [27]: plans of sums and whole plans."""

import unittest

from tests.plansamples import sums_sample, whole_sample
from tests.samples import FIELDS, NO_FIELDS, NO_INTEGERS, nested
from wishunseen.accounts import spent_by
from wishunseen.errors import InvalidNumber
from wishunseen.hidden import first_seen
from wishunseen.plans import Plan
from wishunseen.right import first_unread
from wishunseen.sums import sums_plan, whole_plan

NONE_ABOVE_0 = NO_INTEGERS + (0, -1, -10 ** 40, nested(10))


def all_sizes():
    """All sizes that plans of sums are let for."""
    return [
        (p, houses, book_count) for p in FIELDS for houses in range(2, 7) for book_count in range(1, 9)
        if p ** (book_count * (houses - 1)) <= 256
    ]


class Checks(unittest.TestCase):
    def check(self, function, value, *arguments):
        with self.assertRaises(InvalidNumber, msg=arguments) as caught:
            function(*arguments)
        self.assertIs(caught.exception.value, value, arguments)


class Sums(Checks):
    def test_the_draws_of_the_document(self):
        for p, houses, book_count in all_sizes():
            plan = sums_plan(p, houses, book_count)
            self.assertIs(type(plan), Plan)
            self.assertEqual(plan, sums_sample(p, houses, book_count))
            self.assertEqual(sums_plan(book_count=book_count, house_count=houses, p=p), plan)
            sizes = (plan.p, plan.house_count, plan.book_count, plan.book_length)
            self.assertEqual(sizes, (p, houses, book_count, 1))
            self.assertEqual(plan.weight, p ** (book_count * (houses - 1)))

    def test_a_plan_written_out(self):
        self.assertEqual(sums_plan(3, 2, 1), Plan.made(3, 1, 1, 2, [
            (1, [((), ((1,),))]), (1, [(((1,),), ())]), (1, [(((2,),), ((2,),))]),
        ]))
        plan = sums_plan(3, 3, 2)
        # The row 1, 2, 0, 2: house 0 is asked 1, 2 and house 1 is asked 0, 2.
        asked = [
            [plan.questions[house][number] for house, number in enumerate(plan.asked(wish, 27 + 18 + 2))]
            for wish in (0, 1)
        ]
        self.assertEqual(asked, [[((1, 2),), ((0, 2),), ((0, 2),)], [((1, 2),), ((0, 2),), ((2, 0),)]])

    def test_right_and_hidden_from_all_but_one(self):
        for p, houses, book_count in all_sizes():
            plan = sums_plan(p, houses, book_count)
            self.assertIsNone(first_unread(plan))
            self.assertIsNone(first_seen(plan, houses - 1))
            self.assertIsNone(first_seen(plan))
            self.assertIs(first_seen(plan, houses) is None, book_count == 1)

    def test_each_wrong_number(self):
        for value in NO_FIELDS + (nested(10),):
            self.check(sums_plan, value, value, 2, 2)
            self.check(sums_plan, value, value, value, value)
        for value in NONE_ABOVE_0 + (1, 7, 10 ** 40):
            self.check(sums_plan, value, 2, value, 1)
            self.check(sums_plan, value, 2, value, value)
        for value in NONE_ABOVE_0 + (9, 10 ** 40):
            self.check(sums_plan, value, 2, 2, value)
        for p, houses, value in (
            (2, 2, 9), (2, 3, 5), (2, 4, 3), (2, 5, 3), (2, 6, 2), (3, 2, 6), (3, 3, 3), (3, 4, 2), (3, 6, 2),
            (5, 2, 4), (5, 3, 2), (7, 2, 3), (7, 4, 1), (13, 3, 2), (17, 2, 2), (17, 3, 1), (31, 2, 2), (31, 6, 1),
            (5, 5, 1),
        ):
            self.check(sums_plan, value, p, houses, value)
        for p, houses, value in ((2, 2, 8), (2, 3, 4), (2, 5, 2), (3, 6, 1), (7, 3, 1), (13, 2, 2), (31, 2, 1)):
            self.assertEqual(sums_plan(p, houses, value).book_count, value)


class Whole(Checks):
    def test_the_draw_of_the_document(self):
        for p in FIELDS:
            for houses in range(1, 7):
                for book_count, book_length, house in ((1, 1, 0), (2, 3, houses - 1), (4, 6, houses // 2), (3, 1, 0)):
                    plan = whole_plan(p, houses, book_count, book_length, house)
                    self.assertIs(type(plan), Plan)
                    self.assertEqual(plan, whole_sample(p, houses, book_count, book_length, house))
                    named = whole_plan(
                        house=house, book_length=book_length, book_count=book_count, house_count=houses, p=p,
                    )
                    self.assertEqual(named, plan)

    def test_a_plan_written_out(self):
        both = ((1, 0), (0, 1))
        self.assertEqual(
            whole_plan(5, 3, 2, 1, 1), Plan(5, 1, 2, (((),), (both,), ((),)), ((1, ((0, 0, 0), (0, 0, 0))),)),
        )

    def test_right_and_hidden_from_all(self):
        for houses in range(1, 7):
            for house in range(houses):
                plan = whole_plan(3, houses, 2, 2, house)
                self.assertIsNone(first_unread(plan))
                for together in range(1, houses + 1):
                    self.assertIsNone(first_seen(plan, together))
                self.assertEqual(spent_by(plan, 1), 4)

    def test_each_wrong_number(self):
        for value in NO_FIELDS + (nested(10),):
            self.check(whole_plan, value, value, 2, 2, 2, 0)
            self.check(whole_plan, value, value, value, value, value, value)
        for value in NONE_ABOVE_0:
            self.check(whole_plan, value, 2, value, 2, 2, 0)
            self.check(whole_plan, value, 2, value, value, value, value)
            self.check(whole_plan, value, 2, 3, value, 2, 0)
            self.check(whole_plan, value, 2, 3, value, value, value)
            self.check(whole_plan, value, 2, 3, 2, value, 0)
            self.check(whole_plan, value, 2, 3, 2, value, value)
        for value in NO_INTEGERS + (-1, 3, 10 ** 40, nested(10)):
            self.check(whole_plan, value, 2, 3, 2, 2, value)


if __name__ == "__main__":
    unittest.main()
