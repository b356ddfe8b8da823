"""Promises [23] and [24]: wastes, and whether plans are least."""

import itertools
import unittest

from tests.plansamples import (
    NO_SEQUENCES, changed_draws, copies_sample, is_fraction, judged_plans, least_plans, least_sample, product_table,
    right_plans, right_tables, spent_by_hand, sums_sample, unlike_ranks, wastes_by_hand, wasting_plans, whole_sample,
)
from tests.samples import NO_INTEGERS, nested
from tests.test_accounts import least_by_hand
from wishunseen.accounts import excess_of, is_least, least_mean, spent_by, wastes_of
from wishunseen.errors import InvalidNumber, Undefined
from wishunseen.hidden import first_seen
from wishunseen.plans import Plan
from wishunseen.right import first_unread
from wishunseen.shares import Share, total_of
from wishunseen.tables import TablePlan, as_table

HIDDEN = wasting_plans() + least_plans() + right_plans()
NO_TOGETHER = NO_INTEGERS + (0, -1, -10 ** 40, 10 ** 40, nested(10))


def orders_of(plan):
    return list(itertools.permutations(range(plan.book_count)))


def togethers_of(plan):
    """The numbers of houses from which the plan is hidden."""
    return [t for t in range(1, plan.house_count + 1) if first_seen(plan, t) is None]


class Checks(unittest.TestCase):
    def check_number(self, value, function, *arguments):
        with self.assertRaises(InvalidNumber, msg=arguments) as caught:
            function(*arguments)
        self.assertIs(caught.exception.value, value, arguments)

    def check_undefined(self, function, *arguments):
        with self.assertRaises(Undefined, msg=arguments) as caught:
            function(*arguments)
        self.assertEqual(caught.exception.what, "wastes")


class Wastes(Checks):
    def test_each_order_and_together(self):
        kinds = set()
        for plan in HIDDEN:
            for order, together in itertools.product(orders_of(plan), togethers_of(plan)):
                wastes = wastes_of(plan, order, together)
                self.assertEqual(wastes_of(together=together, order=list(order), plan=plan), wastes)
                self.check_kinds(plan, wastes)
                self.check_words(plan, order, together, wastes)
                self.check_sum(plan, order, together, wastes)
                vain, beyond, twice = wastes
                kinds |= {(bool(vain), any(map(bool, beyond)), any(map(bool, twice)))}
            if togethers_of(plan)[:1] == [1]:
                self.assertEqual(wastes_of(plan, order), wastes_of(plan, order, 1))
        self.assertLessEqual({(False,) * 3, (True, False, False), (False, True, False), (True, True, True)}, kinds)

    def check_kinds(self, plan, wastes):
        self.assertIs(type(wastes), tuple)
        vain, beyond, twice = wastes
        self.assertTrue(type(beyond) is tuple and type(twice) is tuple)
        self.assertEqual((len(beyond), len(twice)), (plan.book_count - 1,) * 2)
        for share in (vain, *beyond, *twice):
            self.assertIs(type(share), Share)
            self.assertFalse(share.below(0))

    def check_words(self, plan, order, together, wastes):
        vain, beyond, twice = wastes_by_hand(plan, order, together)
        self.assertTrue(is_fraction(wastes[0], vain))
        for told, shares in ((beyond, wastes[1]), (twice, wastes[2])):
            for fraction, share in zip(told, shares):
                self.assertTrue(is_fraction(share, fraction))

    def check_sum(self, plan, order, together, wastes):
        """That what is spent is the least and the wastes, each by its factor."""
        ratio, factor = Share(together, plan.house_count), Share(1)
        least = least_mean(plan.house_count, plan.book_count, plan.book_length, together)
        parts = [least, wastes[0]]
        for beyond, twice in zip(*wastes[1:]):
            parts.append(factor * (beyond + ratio * twice))
            factor = factor * ratio
        self.assertEqual(total_of(parts), spent_by(plan, order[0]))

    def test_named_plans(self):
        for plan, together, told in (
            (least_sample(2, 3, 2), 1, ("0", ["0"], ["0"])), (sums_sample(2, 3, 2), 1, ("1/2", ["1/4"], ["1/2"])),
            (sums_sample(2, 3, 2), 2, ("1/2", ["0"], ["1/8"])), (whole_sample(2, 3, 2, 2, 1), 1, ("0", ["4/3"], ["0"])),
            (whole_sample(2, 3, 2, 2, 1), 3, ("0", ["0"], ["0"])), (copies_sample(2, 3, 1, 2), 1, ("4", [], [])),
        ):
            for order in orders_of(plan):
                vain, beyond, twice = wastes_of(plan, order, together)
                self.assertEqual((str(vain), [str(s) for s in beyond], [str(s) for s in twice]), told)

    def test_ranks_that_are_unlike_for_the_wishes(self):
        plan = unlike_ranks()
        vain = [str(wastes_of(plan, order)[0]) for order in ((0, 1), (1, 0))]
        self.assertEqual((str(spent_by(plan, 0)), vain), ("5/2", ["3/4", "1"]))

    def test_wrong_orders(self):
        plan, seen = least_sample(2, 3, 3), copies_sample(2, 3, 3, 1)
        wrong = NO_SEQUENCES + NO_INTEGERS + (
            (), [0], (0, 1), (0, 1, 1), [0, 0, 0], (0, 1, 3), (1, 2, 3), (0, 1, -1), (0, 1, 2, 0), (0, 1, 2, 3),
            (0, True, 2), (False, 1, 2), (0, 1, None), (0, 1, "2"), ((0, 1, 2),), [[0], [1], [2]], nested(10), {},
            {0: 0, 1: 1, 2: 2}, range(3), "012", (0, 1, (2,)), (0, 1, [2]),
        )
        for value in wrong:
            for each in (plan, seen):
                self.check_number(value, wastes_of, each, value)
                self.check_number(value, wastes_of, each, value, None)

    def test_wrong_numbers_of_houses(self):
        for plan in (least_sample(2, 3, 2), copies_sample(2, 3, 2, 1)):
            for value in NO_TOGETHER + (4,):
                self.check_number(value, wastes_of, plan, (1, 0), value)

    def test_plans_that_are_not_right_or_not_hidden(self):
        unlike = [copies_sample(2, 3, 2, 1), least_sample(2, 3, 2)]
        for plan, together in ((unlike[0], 1), (unlike[0], 3), (unlike[1], 2), (unlike[1], 3)):
            self.check_undefined(wastes_of, plan, (0, 1), together)
        nothing = Plan.made(2, 1, 2, 2, ((1, (((), ()), ((), ()))),))
        self.assertIsNone(first_seen(nothing, 2))
        for together in (1, 2):
            self.check_undefined(wastes_of, nothing, [1, 0], together)
        told = set()
        for plan in judged_plans():
            if isinstance(plan, Plan):
                for together in range(1, plan.house_count + 1):
                    good = first_seen(plan, together) is None and first_unread(plan) is None
                    told.add(good)
                    if good:
                        self.check_kinds(plan, wastes_of(plan, tuple(range(plan.book_count)), together))
                    else:
                        self.check_undefined(wastes_of, plan, tuple(range(plan.book_count)), together)
        self.assertEqual(told, {True, False})


class LeastOrNot(Checks):
    def check(self, plan, together):
        """Whether the plan is least, as told and as reckoned."""
        if first_unread(plan) is not None or first_seen(plan, together) is not None:
            self.check_undefined(excess_of, plan, together)
            self.assertIs(is_least(plan, together), False)
            return None
        least = least_by_hand(plan.house_count, plan.book_count, plan.book_length, together)
        self.assertTrue(is_fraction(excess_of(plan, together), spent_by_hand(plan, 0) - least))
        self.assertEqual(excess_of(together=together, plan=plan), excess_of(plan, together))
        self.assertIs(is_least(plan, together), spent_by_hand(plan, 0) == least)
        self.assertIs(is_least(together=together, plan=plan), is_least(plan, together))
        if together == 1:
            self.assertEqual(excess_of(plan), excess_of(plan, 1))
            self.assertIs(is_least(plan), is_least(plan, 1))
        return is_least(plan, together)

    def test_plans_and_tables(self):
        plans = HIDDEN + right_tables() + judged_plans()
        for kind in (Plan, TablePlan):
            told = [
                self.check(plan, together)
                for plan in plans if isinstance(plan, kind) for together in range(1, plan.house_count + 1)
            ]
            self.assertLessEqual({None, True, False}, set(told))

    def test_least_just_if_nothing_is_wasted(self):
        told = []
        for plan in HIDDEN:
            for together in togethers_of(plan):
                for order in orders_of(plan):
                    vain, beyond, twice = wastes_of(plan, order, together)
                    nothing = not any(map(bool, (vain, *beyond, *twice)))
                    self.assertIs(is_least(plan, together), nothing)
                told.append(nothing)
        self.assertGreater(min(told.count(True), told.count(False)), 15)

    def test_named_plans(self):
        for plan in least_plans():
            self.assertIs(is_least(plan), True)
            self.assertEqual(excess_of(plan), 0)
        self.assertEqual(str(excess_of(sums_sample(2, 3, 2))), "11/12")
        self.assertEqual(str(excess_of(sums_sample(2, 3, 2), 2)), "7/12")
        self.assertEqual(str(excess_of(as_table(sums_sample(2, 3, 2)), 2)), "7/12")
        for plan in (least_sample(2, 3, 2), as_table(least_sample(2, 3, 2))):
            self.assertIs(is_least(plan), True)
            self.assertIs(is_least(plan, 2), False)
        for plan in (whole_sample(2, 3, 2, 1, 0), as_table(whole_sample(2, 3, 2, 1, 0))):
            self.assertEqual([is_least(plan, together) for together in (1, 2, 3)], [False, False, True])
        self.assertIs(is_least(product_table()), False)

    def test_least_plans_that_are_changed(self):
        for plan in least_plans()[2:6]:
            for other in changed_draws(plan, Plan):
                self.assertIs(is_least(other), other == plan)

    def test_least_linear_plans_have_no_shorter_books(self):
        for plan in HIDDEN + judged_plans():
            if isinstance(plan, Plan) and plan.house_count > 1 and plan.book_count > 1 and is_least(plan):
                self.assertGreaterEqual(plan.book_length, plan.house_count - 1)

    def test_errors_in_their_order(self):
        for linear in (least_sample(2, 3, 2), copies_sample(2, 3, 2, 1)):
            for plan in (linear, as_table(linear)):
                for value in NO_TOGETHER + (4,):
                    self.check_number(value, excess_of, plan, value)
                    self.check_number(value, is_least, plan, value)


if __name__ == "__main__":
    unittest.main()
