"""Section 1: the example, and what the overview says of all that has landed."""

import itertools
import unittest

from tests.plansamples import judged_plans, right_tables
from wishunseen.accounts import excess_of, is_least, least_mean, spent_by, wastes_of
from wishunseen.hidden import first_seen
from wishunseen.leastplan import least_plan
from wishunseen.making import turned_plan
from wishunseen.plans import Plan
from wishunseen.right import first_unread
from wishunseen.shares import total_of


class Overview(unittest.TestCase):
    def test_the_example(self):
        plan = least_plan(2, 3, 2)
        self.assertEqual((first_unread(plan) is None, first_seen(plan) is None), (True, True))
        self.assertEqual((str(spent_by(plan, 0)), str(least_mean(3, 2, 2))), ("8/3", "8/3"))

    def test_no_plan_spends_less(self):
        """That right and hidden plans, linear or not, have answers of at least L (1 + 1/N + .. + 1/N^(K-1)) letters."""
        judged = 0
        for plan in judged_plans() + right_tables():
            if first_unread(plan) is None and first_seen(plan) is None:
                least = least_mean(plan.house_count, plan.book_count, plan.book_length)
                for wish in range(plan.book_count):
                    self.assertFalse(spent_by(plan, wish).below(least))
                judged += 1
        self.assertGreater(judged, 20)

    def test_own_plans_have_just_so_many(self):
        for houses, books, blocks in itertools.product(range(2, 7), range(1, 4), range(1, 4)):
            if blocks * (houses - 1) <= 6:
                plan = least_plan(3, houses, books, blocks)
                self.assertEqual(spent_by(plan, 0), least_mean(houses, books, plan.book_length))
                self.assertIs(is_least(plan), True)

    def test_what_is_spent_above_is_a_sum_of_wastes(self):
        for plan in judged_plans():
            if not isinstance(plan, Plan) or first_unread(plan) is not None or first_seen(plan) is not None:
                continue
            for made in (plan, turned_plan(plan)):
                vain, beyond, twice = wastes_of(made, range_of(made))
                self.assertFalse(any(share.below(0) for share in (vain, *beyond, *twice)))
                self.assertEqual(bool(excess_of(made)), bool(total_of((vain, *beyond, *twice))))


def range_of(plan):
    return tuple(range(plan.book_count))


if __name__ == "__main__":
    unittest.main()
