"""Promise [26]: least plans."""

import unittest

from tests.plansamples import least_draws, least_sample
from tests.samples import FIELDS, NO_FIELDS, NO_INTEGERS, nested
from wishunseen.accounts import is_least, least_mean, spent_by
from wishunseen.errors import InvalidNumber
from wishunseen.hidden import first_seen
from wishunseen.leastplan import least_plan
from wishunseen.plans import Plan
from wishunseen.right import first_unread

NONE_OF_FEW = NO_INTEGERS + (0, -1, 7, 10 ** 40, -10 ** 40, nested(10))


def all_sizes():
    return [
        (houses, book_count, blocks) for houses in range(2, 7) for book_count in range(1, 5)
        for blocks in range(1, 6 // (houses - 1) + 1)
    ]


class LeastPlans(unittest.TestCase):
    def test_the_draws_of_the_document(self):
        for p in (2, 3, 5, 31):
            for houses, book_count, blocks in all_sizes():
                plan = least_plan(p, houses, book_count, blocks)
                self.assertIs(type(plan), Plan)
                self.assertEqual(plan, least_sample(p, houses, book_count, blocks))
                self.assertEqual((plan.p, plan.house_count, plan.book_count), (p, houses, book_count))
                self.assertEqual(plan.book_length, blocks * (houses - 1))
                self.assertEqual(plan.weight, houses ** (book_count - 1))

    def test_by_name_and_by_default(self):
        self.assertEqual(least_plan(3, 3, 2), least_plan(3, 3, 2, 1))
        self.assertEqual(least_plan(blocks=2, book_count=3, house_count=3, p=5), least_plan(5, 3, 3, 2))
        for p in FIELDS:
            self.assertEqual(least_plan(p, 2, 2).p, p)

    def test_a_plan_written_out(self):
        first, second, both = ((1, 0),), ((0, 1),), ((1, 1),)
        self.assertEqual(least_draws(2, 2), (
            (1, (((), first), ((), second))), (1, ((both, second), (both, first))),
        ))
        self.assertEqual(least_plan(7, 2, 2), Plan.made(7, 1, 2, 2, least_draws(2, 2)))
        # Three houses, blocks of two letters: block 1 is letters 0 and 1, block 2 is letters 2 and 3.
        plan = least_plan(2, 3, 2, 2)
        asked = [plan.questions[house][number] for house, number in enumerate(plan.asked(1, 2))]
        self.assertEqual(asked, [
            ((0, 0, 1, 0, 1, 0, 0, 0), (0, 0, 0, 1, 0, 1, 0, 0)), ((0, 0, 1, 0, 0, 0, 1, 0), (0, 0, 0, 1, 0, 0, 0, 1)),
            ((0, 0, 1, 0, 0, 0, 0, 0), (0, 0, 0, 1, 0, 0, 0, 0)),
        ])

    def test_right_hidden_and_least(self):
        for p in (2, 3, 5):
            for houses, book_count, blocks in all_sizes():
                if houses ** (book_count - 1) <= 64:
                    plan = least_plan(p, houses, book_count, blocks)
                    self.assertIsNone(first_unread(plan))
                    self.assertIsNone(first_seen(plan))
                    self.assertIs(is_least(plan), True)
                    for wish in range(book_count):
                        self.assertEqual(spent_by(plan, wish), least_mean(houses, book_count, plan.book_length))
        self.assertIs(is_least(least_plan(31, 6, 4)), True)

    def test_each_wrong_number(self):
        for value in NO_FIELDS + (nested(10),):
            self.check(value, value, 2, 2)
            self.check(value, value, value, value, value)
        for value in NONE_OF_FEW + (1,):
            self.check(value, 2, value, 2)
            self.check(value, 2, value, value, value)
            self.check(value, 2, value, 5, 7)
        for value in NONE_OF_FEW + (5, 6):
            self.check(value, 2, 3, value)
            self.check(value, 2, 3, value, value)
            self.check(value, 2, 3, value, 4)
        for value in NONE_OF_FEW:
            for houses in range(2, 7):
                self.check(value, 2, houses, 2, value)
        for houses, blocks in ((2, 7), (3, 4), (4, 3), (5, 2), (6, 2), (3, 6), (6, 6)):
            self.check(blocks, 2, houses, 2, blocks)

    def check(self, value, *arguments):
        with self.assertRaises(InvalidNumber, msg=arguments) as caught:
            least_plan(*arguments)
        self.assertIs(caught.exception.value, value)


if __name__ == "__main__":
    unittest.main()
