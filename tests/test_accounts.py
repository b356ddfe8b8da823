"""Promises [21] and [22]: what is spent, the least, and ranks besides known books."""

import itertools
import random
import unittest
from fractions import Fraction

from tests.plansamples import (
    NO_NUMBERS, NO_SEQUENCES, copies_sample, few_parts, is_fraction, judged_plans, least_plans, least_sample,
    lots_by_hand, many_parts, mean_rank_by_hand, points_sample, right_plans, right_tables, spent_by_hand, sums_sample,
    table_parts, wasting_plans, whole_sample,
)
from tests.samples import NO_INTEGERS, nested
from wishunseen.accounts import apart_rank, joint_rank, least_mean, spent_by
from wishunseen.errors import InvalidNumber
from wishunseen.hidden import first_seen
from wishunseen.plans import Plan
from wishunseen.right import first_shaken, first_unread
from wishunseen.tables import TablePlan, as_table

NO_INTEGERS_ABOVE_0 = NO_INTEGERS + (0, -1, -10 ** 40, nested(10))
NO_NUMBER = NO_INTEGERS + (-1, -10 ** 40, nested(10))


def least_by_hand(house_count, book_count, book_length, together=1, silent=0, lying=0):
    left = house_count - silent - 2 * lying
    return Fraction(house_count, left) * book_length * sum(Fraction(together, left) ** k for k in range(book_count))


class Checks(unittest.TestCase):
    def check_wrong(self, value, function, *arguments):
        with self.assertRaises(InvalidNumber, msg=arguments) as caught:
            function(*arguments)
        self.assertIs(caught.exception.value, value, arguments)


class Spent(Checks):
    def test_against_a_reckoning(self):
        plans = judged_plans() + [Plan(*parts) for parts in many_parts()]
        plans += [TablePlan(*parts) for parts in table_parts()]
        for plan in plans:
            for wish in range(plan.book_count):
                self.assertTrue(is_fraction(spent_by(plan, wish), spent_by_hand(plan, wish)))
                self.assertEqual(spent_by(wish=wish, plan=plan), spent_by(plan, wish))

    def test_named_plans(self):
        for plan, told in (
            (least_sample(2, 3, 2), "8/3"), (least_sample(2, 2, 2), "3/2"), (whole_sample(3, 2, 2, 3, 1), "6"),
            (copies_sample(2, 3, 2, 2), "6"), (sums_sample(2, 2, 1), "1"),
        ):
            for wish in range(plan.book_count):
                self.assertEqual(str(spent_by(plan, wish)), told)
                if plan.p ** (plan.book_count * plan.book_length) <= 64:
                    self.assertEqual(str(spent_by(as_table(plan), wish)), told)

    def test_great_weights(self):
        plan = Plan(2, 1, 2, (((), ((1, 0),)),), ((10 ** 200 - 1, ((1,), (0,))), (1, ((0,), (1,)))))
        self.assertEqual(str(spent_by(plan, 0)), "9" * 200 + "/1" + "0" * 200)
        self.assertEqual(str(spent_by(plan, 1)), "1/1" + "0" * 200)

    def test_the_same_for_all_wishes_if_hidden(self):
        seen = 0
        for plan in judged_plans() + wasting_plans():
            told = [str(spent_by(plan, wish)) for wish in range(plan.book_count)]
            if first_seen(plan) is None:
                self.assertEqual(len(set(told)), 1)
            seen += len(set(told)) > 1
        self.assertGreater(seen, 50)

    def test_wrong_wishes(self):
        for plan in (least_sample(2, 3, 2), as_table(least_sample(2, 3, 2))):
            for value in NO_NUMBER + (2, 10 ** 40):
                self.check_wrong(value, spent_by, plan, value)


class Least(Checks):
    def test_against_the_sum(self):
        for house_count, book_count, book_length in itertools.product(range(1, 7), range(1, 5), (1, 2, 6)):
            for silent, lying in itertools.product(range(4), range(3)):
                for together in range(1, house_count - silent - 2 * lying + 1):
                    arguments = (house_count, book_count, book_length, together, silent, lying)
                    self.assertTrue(is_fraction(least_mean(*arguments), least_by_hand(*arguments)), arguments)

    def test_numbers_to_60(self):
        rng = random.Random(21)
        for _ in range(200):
            house_count = rng.randint(1, 60)
            lying = rng.randint(0, (house_count - 1) // 2)
            silent = rng.randint(0, house_count - 2 * lying - 1)
            together = rng.randint(1, house_count - silent - 2 * lying)
            arguments = (house_count, rng.randint(1, 60), rng.randint(1, 60), together, silent, lying)
            self.assertTrue(is_fraction(least_mean(*arguments), least_by_hand(*arguments)), arguments)
        self.assertTrue(is_fraction(least_mean(60, 60, 60, 59), least_by_hand(60, 60, 60, 59)))
        self.assertTrue(is_fraction(least_mean(59, 60, 60, 1, 0, 29), least_by_hand(59, 60, 60, 1, 0, 29)))

    def test_by_name_and_by_default(self):
        self.assertEqual(str(least_mean(3, 2, 2)), "8/3")
        self.assertEqual(str(least_mean(3, 2, 2, 2)), "10/3")
        self.assertEqual(str(least_mean(3, 2, 2, silent=1)), "9/2")
        self.assertEqual(str(least_mean(3, 2, 2, lying=1)), "12")
        self.assertEqual(
            least_mean(lying=1, silent=2, together=2, book_length=5, book_count=3, house_count=7),
            least_mean(7, 3, 5, 2, 2, 1),
        )
        self.assertEqual(str(least_mean(1, 4, 3)), "12")

    def test_each_wrong_number(self):
        for value in NO_INTEGERS_ABOVE_0:
            self.check_wrong(value, least_mean, value, 2, 2)
            self.check_wrong(value, least_mean, value, None, None, None, None, None)
            self.check_wrong(value, least_mean, 3, value, 2)
            self.check_wrong(value, least_mean, 3, value, None, None, None, None)
            self.check_wrong(value, least_mean, 3, 2, value)
            self.check_wrong(value, least_mean, 3, 2, value, None, None, None)
            self.check_wrong(value, least_mean, 3, 2, 2, value)
        for value in NO_NUMBER:
            self.check_wrong(value, least_mean, 3, 2, 2, 1, value)
            self.check_wrong(value, least_mean, 3, 2, 2, None, value, None)
            self.check_wrong(value, least_mean, 3, 2, 2, 1, 0, value)
            self.check_wrong(value, least_mean, 3, 2, 2, None, 5, value)

    def test_together_beyond_the_houses_left(self):
        for arguments, value in (
            ((3, 2, 2, 4), 4), ((3, 2, 2, 3, 1), 3), ((3, 2, 2, 2, 0, 1), 2), ((3, 2, 2, 1, 3), 1),
            ((3, 2, 2, 1, 1, 1), 1), ((3, 2, 2, 1, 10 ** 40, 0), 1), ((3, 2, 2, 1, 0, 10 ** 40), 1),
            ((1, 1, 1, 2), 2), ((3, 2, 2, 10 ** 40), 10 ** 40), ((3, 2, 2, 0, 3), 0), ((3, 2, 2, -1, 4), -1),
        ):
            with self.assertRaises(InvalidNumber) as caught:
                least_mean(*arguments)
            self.assertEqual(caught.exception.value, value)
        self.assertEqual(str(least_mean(3, 2, 2, 2, 1)), "6")
        self.assertEqual(str(least_mean(3, 2, 2, 1, 0, 1)), "12")

    def test_no_plan_spends_less(self):
        reached = 0
        for plan in right_plans() + right_tables() + wasting_plans() + least_plans() + judged_plans():
            if first_unread(plan) is not None:
                continue
            for together in range(1, plan.house_count + 1):
                if first_seen(plan, together) is None:
                    least = least_mean(plan.house_count, plan.book_count, plan.book_length, together)
                    self.assertFalse(spent_by(plan, 0).below(least))
                    reached += spent_by(plan, 0) == least
        self.assertGreater(reached, 20)

    def test_no_sturdy_plan_spends_less(self):
        for plan in (points_sample(5, 3), points_sample(5, 4), copies_sample(2, 5, 1, 1), copies_sample(3, 4, 1, 2)):
            self.assertIsNone(first_seen(plan))
            for silent, lying in itertools.product(range(plan.house_count), range(2)):
                left = plan.house_count - silent - 2 * lying
                if left >= 1 and first_shaken(plan, silent, lying) is None:
                    least = least_mean(plan.house_count, plan.book_count, plan.book_length, 1, silent, lying)
                    self.assertFalse(spent_by(plan, 0).below(least))
        self.assertEqual(spent_by(copies_sample(2, 5, 1, 1), 0), least_mean(5, 1, 1, 1, 0, 2))


class Ranks(Checks):
    def test_against_ranks_of_their_own(self):
        plans = [Plan(*parts) for parts in many_parts()[::2] + few_parts()] + wasting_plans() + least_plans()
        for plan in plans:
            everyone = [tuple(range(plan.house_count))]
            for wish in range(plan.book_count):
                for size in range(plan.book_count + 1):
                    for known in itertools.combinations(range(plan.book_count), size):
                        joint = joint_rank(plan, wish, known)
                        self.assertTrue(is_fraction(joint, mean_rank_by_hand(plan, wish, known, everyone)))
                        self.assertEqual(joint_rank(known=list(known), wish=wish, plan=plan), joint)
                        self.check_apart(plan, wish, known)

    def check_apart(self, plan, wish, known):
        for together in range(1, plan.house_count + 1):
            told = apart_rank(plan, wish, known, together)
            self.assertTrue(is_fraction(told, mean_rank_by_hand(plan, wish, known, lots_by_hand(plan, together))))
            self.assertEqual(apart_rank(together=together, known=list(known), wish=wish, plan=plan), told)
        self.assertEqual(apart_rank(plan, wish, known), apart_rank(plan, wish, known, 1))
        self.assertEqual(told, joint_rank(plan, wish, known))

    def test_named_plans(self):
        sums = sums_sample(2, 3, 2)
        self.assertEqual(str(joint_rank(sums, 0, ())), "7/4")
        self.assertEqual(str(joint_rank(sums, 0, (0,))), "3/4")
        self.assertEqual(str(joint_rank(sums, 0, (1,))), "1")
        self.assertEqual(str(apart_rank(sums, 0, (0,))), "1/2")
        self.assertEqual(str(apart_rank(sums, 0, (0,), 2)), "3/4")
        self.assertEqual(str(joint_rank(sums, 0, (0, 1))), "0")

    def test_great_weights(self):
        plan = Plan(2, 1, 2, (((), ((1, 0),)),) * 2, ((10 ** 200 - 1, ((1, 1), (0, 0))), (1, ((0, 0), (1, 0)))))
        self.assertEqual(str(joint_rank(plan, 0, [1])), "9" * 200 + "/1" + "0" * 200)
        self.assertEqual(str(apart_rank(plan, 0, [1])), "9" * 200 + "/1" + "0" * 200)
        self.assertEqual(str(apart_rank(plan, 1, [])), "1/2" + "0" * 200)

    def test_wrong_wishes_and_known_books(self):
        plan = least_sample(2, 3, 3)
        wrong = NO_SEQUENCES + NO_INTEGERS + (
            (3,), [0, 3], (-1,), (0, 0), [1, 1], (1, 0), (0, 2, 1), (0, 1, 2, 3), (True,), (False, 1), (None,), ("0",),
            ((0,),), [[0]], (0, None), (10 ** 40,), nested(10), {}, {0: 0}, range(2), "012",
        )
        for value in NO_NUMBER + (3, 10 ** 40):
            for known in ((), None):
                self.check_wrong(value, joint_rank, plan, value, known)
                self.check_wrong(value, apart_rank, plan, value, known)
                self.check_wrong(value, apart_rank, plan, value, known, None)
        for value in wrong:
            if type(value) in (list, tuple) and all(type(book) is int for book in value):
                if list(value) == sorted(set(value)) and all(0 <= book < 3 for book in value):
                    continue
            self.check_wrong(value, joint_rank, plan, 1, value)
            self.check_wrong(value, apart_rank, plan, 1, value)
            self.check_wrong(value, apart_rank, plan, 1, value, None)

    def test_wrong_numbers_of_houses(self):
        plan = least_sample(2, 3, 3)
        for value in NO_NUMBERS + NO_NUMBER + (0, 4, 10 ** 40):
            self.check_wrong(value, apart_rank, plan, 1, (0, 2), value)


if __name__ == "__main__":
    unittest.main()
