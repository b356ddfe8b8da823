"""Promise [30]: what plans made from others have of them."""

import itertools
import random
import unittest

from tests.makingsamples import (
    Checks, all_shares, as_fraction, half_right_plans, hidden_plans, invertible,
)
from tests.plansamples import least_plans, spent_by_hand
from wishunseen.accounts import is_least, spent_by, wastes_of
from wishunseen.hidden import first_seen
from wishunseen.leastplan import least_plan
from wishunseen.making import (
    beside_plans, left_out_plan, mixed_plans, rehoused_plan, remixed_plan, reordered_plan, turned_plan,
)
from wishunseen.plans import Plan
from wishunseen.right import first_unread
from wishunseen.sums import sums_plan, whole_plan

HIDDEN = [plan for plan in hidden_plans() if len(plan.draws) <= 100]
HALVES = half_right_plans()


def is_right(plan):
    return first_unread(plan) is None


def hidden_from(plan):
    return {t for t in range(1, plan.house_count + 1) if first_seen(plan, t) is None}


def reversed_order(count):
    return tuple(range(count))[::-1]


def shifted_order(count):
    return tuple(range(1, count)) + (0,)


def remixed_once(rng, plan):
    house = rng.randrange(plan.house_count)
    question = rng.randrange(len(plan.questions[house]))
    return remixed_plan(plan, house, question, invertible(rng, plan.p, len(plan.questions[house][question])))


def pairs():
    """Pairs of plans with alike sizes, few draws, and few letters when they are put beside each other."""
    found = []
    for one, other in itertools.product(HIDDEN, repeat=2):
        sizes = [(plan.p, plan.house_count, plan.book_count) for plan in (one, other)]
        few = len(one.draws) * len(other.draws) <= 70 and one.book_length + other.book_length <= 6
        if sizes[0] == sizes[1] and few:
            found.append((one, other))
    return found


class Kept(Checks):
    def check_judged(self, made, *plans):
        """That what is made is right if these plans are, and hidden from as many houses."""
        if all(is_right(plan) for plan in plans):
            self.assertTrue(is_right(made))
        self.assertLessEqual(set.intersection(*[hidden_from(plan) for plan in plans]), hidden_from(made))

    def check_wastes(self, made, plan, order=None):
        """That both spend and waste the same; book k of what is made is book order[k] of the plan."""
        order = order or tuple(range(plan.book_count))
        for wish in range(plan.book_count):
            self.assertEqual(spent_by(made, wish), spent_by(plan, order[wish]))
        for together in hidden_from(plan):
            for row in (tuple(range(plan.book_count)), reversed_order(plan.book_count), shifted_order(plan.book_count)):
                told = wastes_of(plan, [order[k] for k in row], together)
                self.assertEqual(all_shares(wastes_of(made, row, together)), all_shares(told))

    def test_reordered(self):
        for plan in HIDDEN:
            for order in (reversed_order(plan.book_count), shifted_order(plan.book_count)):
                made = reordered_plan(plan, order)
                self.check_judged(made, plan)
                self.check_wastes(made, plan, order)

    def test_rehoused_remixed_turned(self):
        rng = random.Random(30)
        for plan in HIDDEN:
            for made in (
                rehoused_plan(plan, reversed_order(plan.house_count)),
                rehoused_plan(plan, shifted_order(plan.house_count)), remixed_once(rng, plan), turned_plan(plan),
            ):
                self.check_judged(made, plan)
                self.check_wastes(made, plan)

    def test_beside(self):
        for one, other in pairs():
            made = beside_plans(one, other)
            self.check_judged(made, one, other)
            for wish in range(one.book_count):
                self.assertEqual(spent_by(made, wish), spent_by(one, wish) + spent_by(other, wish))
            for together in hidden_from(one) & hidden_from(other):
                order = shifted_order(one.book_count)
                sums = [
                    a + b for a, b in zip(*[all_shares(wastes_of(plan, order, together)) for plan in (one, other)])
                ]
                self.assertEqual(all_shares(wastes_of(made, order, together)), sums)

    def test_mixed(self):
        mixed = 0
        for one, other in pairs():
            if one.book_length != other.book_length:
                continue
            mixed += 1
            for first, second in ((1, 1), (999, 2)):
                made = mixed_plans(one, other, first, second)
                self.check_judged(made, one, other)
                for wish in range(one.book_count):
                    self.assertEqual(
                        as_fraction(spent_by(made, wish)) * (first + second),
                        spent_by_hand(one, wish) * first + spent_by_hand(other, wish) * second,
                    )
                for together in hidden_from(one) & hidden_from(other):
                    order = reversed_order(one.book_count)
                    shares = [all_shares(wastes_of(plan, order, together)) for plan in (one, other)]
                    means = [(a * first + b * second) / (first + second) for a, b in zip(*shares)]
                    self.assertEqual(all_shares(wastes_of(made, order, together)), means)
        self.assertGreater(mixed, 20)

    def test_left_out(self):
        for plan in HIDDEN:
            for book in range(plan.book_count if plan.book_count > 1 else 0):
                made = left_out_plan(plan, book)
                self.check_judged(made, plan)
                others = [other for other in range(plan.book_count) if other != book]
                for wish, other in enumerate(others):
                    self.assertFalse(spent_by(plan, other).below(spent_by(made, wish)))

    def test_least_plans_stay_least(self):
        for plan in least_plans() + [least_plan(31, 3, 3), least_plan(2, 4, 3), least_plan(3, 6, 2)]:
            for book in range(plan.book_count if plan.book_count > 1 else 0):
                self.assertIs(is_least(left_out_plan(plan, book)), True)
            self.assertIs(is_least(turned_plan(plan)), True)
            self.assertIs(is_least(reordered_plan(plan, reversed_order(plan.book_count))), True)
            self.assertIs(is_least(mixed_plans(plan, rehoused_plan(plan, shifted_order(plan.house_count)), 2, 3)), True)
        self.assertIs(is_least(beside_plans(least_plan(2, 3, 2), least_plan(2, 3, 2, 2))), True)

    def test_half_right_plans(self):
        """Plans that are right but seen, or hidden but not right."""
        rng = random.Random(31)
        kinds = set()
        for plan in HALVES:
            kinds.add((is_right(plan), bool(hidden_from(plan))))
            made = [
                reordered_plan(plan, shifted_order(plan.book_count)), turned_plan(plan), remixed_once(rng, plan),
                rehoused_plan(plan, reversed_order(plan.house_count)), left_out_plan(plan, 0), mixed_plans(plan, plan),
            ]
            for other in made:
                self.check_judged(other, plan)
        self.assertLessEqual({(True, False), (False, True)}, kinds)

    def test_several_makings(self):
        rng = random.Random(32)
        for start in (least_plan(2, 2, 3), sums_plan(2, 3, 2), whole_plan(3, 2, 3, 1, 1), least_plan(3, 3, 2)):
            plan, order = start, tuple(range(start.book_count))
            for step in range(8):
                choice = rng.randrange(4)
                if choice == 0:
                    moved = rng.sample(range(plan.book_count), plan.book_count)
                    plan, order = reordered_plan(plan, moved), tuple(order[k] for k in moved)
                elif choice == 1:
                    plan = rehoused_plan(plan, rng.sample(range(plan.house_count), plan.house_count))
                elif choice == 2:
                    plan = remixed_once(rng, plan)
                elif len(plan.draws) * (plan.house_count + 1) <= 120:
                    plan = mixed_plans(plan, turned_plan(plan), rng.randint(1, 999), rng.randint(1, 999))
                self.check_judged(plan, start)
            self.check_wastes(plan, start, order)
            self.assertIs(type(plan), Plan)


if __name__ == "__main__":
    unittest.main()
