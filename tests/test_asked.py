"""Promise [41]: rows of asks."""

import itertools
import random
import unittest

from tests.makingsamples import Checks, each_first_asked
from tests.plansamples import (
    NO_SEQUENCES, changed_draws, copies_sample, judged_plans, product_table, random_parts, sums_sample, unlike_ranks,
)
from tests.samples import NO_INTEGERS, nested
from wishunseen.asked import first_told
from wishunseen.hidden import seen_by
from wishunseen.leastplan import least_plan
from wishunseen.plans import Plan
from wishunseen.sums import sums_plan, whole_plan
from wishunseen.tables import TablePlan, as_table

NAMES = (
    ("a",), ("z",), ("draw",), ("a", "a"), ("a", "b"), ("b", "a"), ("one", "two"), ("a", "a", "a"), ("a", "a", "b"),
    ("a", "b", "a"), ("b", "a", "a"), ("a", "b", "c"),
)


def told_by_hand(plan, lot, names):
    """What is told, by counting all rows of draws for all rows of wishes."""
    unlike = sorted(set(names))
    counts = {}
    for wishes in itertools.product(range(plan.book_count), repeat=len(names)):
        seen = {}
        for drawn in itertools.product(plan.draws, repeat=len(unlike)):
            weight = 1
            for one, _ in drawn:
                weight *= one
            by_name = dict(zip(unlike, drawn))
            row = tuple(
                tuple(by_name[name][1][wish][house] for house in lot) for name, wish in zip(names, wishes)
            )
            seen[row] = seen.get(row, 0) + weight
        counts[wishes] = seen
    plain = counts[(0,) * len(names)]
    for wishes in sorted(counts):
        for row in sorted({*plain, *counts[wishes]}):
            if plain.get(row, 0) != counts[wishes].get(row, 0):
                return (wishes, row, plain.get(row, 0), counts[wishes].get(row, 0))
    return None


def lots(plan):
    houses = range(plan.house_count)
    return [lot for size in houses for lot in itertools.combinations(houses, size + 1)]


def few_plans():
    """Plans and plans of tables of few draws, hidden and not."""
    rng = random.Random(41)
    linear = [
        least_plan(2, 2, 2), least_plan(3, 3, 2), least_plan(2, 2, 3), sums_plan(2, 2, 2), whole_plan(2, 3, 2, 1, 1),
        whole_plan(3, 2, 1, 2, 0), copies_sample(2, 2, 3, 1), unlike_ranks(), sums_sample(2, 2, 3),
    ]
    linear += [each_first_asked(plan) for plan in linear[:2]]
    linear += [Plan(*random_parts(rng, 2, 2, 2, 1, most=3, draws=draws, most_weight=3)) for draws in (1, 2, 3, 4, 5)]
    found = list(linear)
    for plan in linear[:5]:
        found += changed_draws(plan, Plan)
    return found + [as_table(plan) for plan in linear if len(plan.draws) <= 4] + [product_table()]


FEW = few_plans()


class Told(Checks):
    def test_against_a_counting(self):
        kinds = set()
        for plan in FEW:
            for names in NAMES:
                if plan.book_count ** len(names) * len(plan.draws) ** len(set(names)) > 4000:
                    continue
                for lot in lots(plan):
                    told = told_by_hand(plan, lot, names)
                    self.assertEqual(first_told(plan, lot, names), told)
                    kinds.add((type(plan), len(names), len(set(names)), told is None))
            self.assertEqual(first_told(names=["a", "b"], lot=[0], plan=plan), told_by_hand(plan, (0,), ("a", "b")))
        for kind in (Plan, TablePlan):
            for count in range(1, 4):
                for unlike in range(1, count + 1):
                    self.assertLessEqual({(kind, count, unlike, True), (kind, count, unlike, False)}, kinds)

    def test_what_is_told_are_tuples(self):
        found = first_told(least_plan(2, 2, 2), [1], ["a", "a"])
        self.assertTrue(all(type(part) is tuple for part in (found, *found[:2], *found[1])))

    def test_named_rows(self):
        least, copies = least_plan(2, 2, 2), copies_sample(2, 2, 2, 1)
        self.assertIsNone(first_told(least, (0,), ("a",)))
        self.assertIsNone(first_told(least, (1,), ("a", "b", "c")))
        # By the same draw, house 1 is asked the same again just if the same is wished again.
        self.assertEqual(first_told(least, (1,), ("a", "a")), ((0, 1), ((0,), (0,)), 1, 0))
        self.assertEqual(first_told(least, (1,), ("a", "b", "a")), ((0, 0, 1), ((0,), (0,), (0,)), 1, 0))
        # House 0 is asked the same for both wishes, so that it sees nothing by it.
        self.assertIsNone(first_told(least, (0,), ("a", "a", "a")))
        self.assertEqual(first_told(least, (0, 1), ("a",)), ((1,), ((0, 0),), 0, 1))
        self.assertEqual(first_told(copies, [0], ["x"]), ((1,), ((0,),), 0, 1))
        self.assertEqual(first_told(copies, [0, 1], ["x", "y"]), ((0, 1), ((1, 1), (0, 0)), 0, 1))
        self.assertIsNone(first_told(whole_plan(2, 3, 4, 2, 1), (0, 1, 2), ("a", "a", "b")))

    def test_unlike_names_tell_just_what_one_ask_tells(self):
        for plan in FEW + [plan for plan in judged_plans() if len(plan.draws) <= 3][:120]:
            for lot in lots(plan):
                alike = len({seen_by(plan, lot, wish) for wish in range(plan.book_count)}) == 1
                for names in (("a",), ("b", "a"), ("a", "b", "c")):
                    if len(plan.draws) ** len(names) * plan.book_count ** len(names) <= 2000:
                        self.assertIs(first_told(plan, lot, names) is None, alike)

    def test_as_many_rows_of_draws_as_there_may_be(self):
        plan = least_plan(2, 3, 4)
        self.assertEqual(len(plan.draws) ** 2, 729)
        self.assertIsNone(first_told(plan, (2,), ("a", "b")))
        self.assertIsNone(first_told(least_plan(2, 3, 3), (0,), ("a", "b", "c")))
        plan = sums_plan(2, 3, 4)
        self.assertIsNone(first_told(plan, (0, 2), ("a",)))
        found = first_told(plan, (2,), ("a", "a", "a"))
        self.assertEqual(found, told_by_hand(plan, (2,), ("a", "a", "a")))
        great = Plan.made(2, 1, 2, 1, [(10 ** 200 - 1, [[()], [()]]), (3, [[((1, 0),)], [((0, 1),)]])])
        self.assertEqual(first_told(great, (0,), ("a", "b", "c")), told_by_hand(great, (0,), ("a", "b", "c")))

    def test_lots_that_are_none(self):
        for plan in (least_plan(2, 3, 2), as_table(least_plan(2, 3, 2))):
            for value in NO_SEQUENCES + NO_INTEGERS + (
                (), [], (3,), (0, 3), (1, 0), (0, 0), [2, 1], (-1,), (-1, 0), (True,), (0, True), (None,), ("0",),
                ((0,),), [[0]], nested(10), {}, (0, 1, 2, 3), (0, 10 ** 40),
            ):
                if value not in ((1,), [1]):
                    self.check_number(value, first_told, plan, value, ("a",))


if __name__ == "__main__":
    unittest.main()
