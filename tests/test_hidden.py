"""Promise [20]: what houses see, and whether it tells the wish."""

import itertools
import random
import unittest
from fractions import Fraction

from tests.plansamples import (
    NO_SEQUENCES, copies_sample, judged_plans, least_sample, many_parts, points_sample, random_draws, sums_sample,
    whole_sample,
)
from tests.samples import NO_INTEGERS, nested
from wishunseen.errors import InvalidNumber
from wishunseen.hidden import first_seen, guess_chance, seen_by
from wishunseen.plans import Plan
from wishunseen.shares import Share
from wishunseen.tables import TablePlan, as_table


def mixed_weights(plan, weights):
    """The draws of the plan with these weights in turn."""
    draws = [(weights[at % len(weights)], asks) for at, (_, asks) in enumerate(plan.draws)]
    return type(plan)(plan.p, plan.book_length, plan.book_count, plan.questions, draws)


def with_draws(plan, draws):
    return type(plan)(plan.p, plan.book_length, plan.book_count, plan.questions, draws)


def five_houses():
    """Plans of five houses, with little to ask."""
    rng = random.Random(23)
    questions = (((), ((1, 0),)),) * 5
    few = [random_draws(rng, 2, questions, count, 3) for count in (1, 2, 8, 32)]
    alike = tuple((weight, (asks[0], asks[0])) for weight, asks in few[-1])
    # All rows of five numbers; the wish turns the first one only.
    turned = tuple((3, (row, (1 - row[0], *row[1:]))) for row in itertools.product((0, 1), repeat=5))
    return [Plan(2, 1, 2, questions, draws) for draws in (*few, alike, turned)]


def seen_plans():
    hidden = [
        sums_sample(2, 2, 2), sums_sample(3, 2, 2), sums_sample(2, 3, 2), least_sample(2, 3, 2), least_sample(3, 2, 3),
        least_sample(2, 2, 4), points_sample(5, 3), points_sample(3, 2), whole_sample(2, 3, 2, 1, 1),
    ]
    found = list(hidden) + five_houses() + judged_plans()[::3]
    for plan in hidden:
        table = as_table(plan) if plan.p ** (plan.book_count * plan.book_length) <= 64 else plan
        for each in (plan, table):
            found += [
                with_draws(each, each.draws[1:] or each.draws), with_draws(each, (*each.draws, each.draws[-1])),
                with_draws(each, each.draws * 2), with_draws(each, each.draws[::-1]),
                mixed_weights(each, (1, 10 ** 200 - 1)), mixed_weights(each, (10 ** 150,)),
                mixed_weights(each, (2, 1, 3)),
            ]
    return found + [Plan(*parts) for parts in many_parts()]


PLANS = seen_plans()


def lots_of(plan, sizes=None):
    return [
        lot for size in (sizes or range(1, plan.house_count + 1))
        for lot in itertools.combinations(range(plan.house_count), size)
    ]


def counted(plan, lot, wish):
    """The weights of what the lot is asked, by the words of the document."""
    weights = {}
    for draw in range(len(plan.draws)):
        row = tuple(plan.asked(wish, draw)[house] for house in lot)
        weights[row] = weights.get(row, 0) + plan.draws[draw][0]
    return weights


def first_by_hand(plan, together):
    for lot in lots_of(plan, (together,)):
        told = [counted(plan, lot, wish) for wish in range(plan.book_count)]
        for row in sorted({row for weights in told for row in weights}):
            for wish in range(plan.book_count):
                if told[wish].get(row, 0) != told[0].get(row, 0):
                    return (lot, row, wish, told[0].get(row, 0), told[wish].get(row, 0))
    return None


class Seen(unittest.TestCase):
    def test_rows_and_weights(self):
        for plan in PLANS:
            for lot, wish in itertools.product(lots_of(plan), range(plan.book_count)):
                told = seen_by(plan, lot, wish)
                self.assertEqual(told, tuple(sorted(counted(plan, lot, wish).items())))
                self.assertEqual(sum(weight for _, weight in told), plan.weight)
                self.assertEqual(seen_by(wish=wish, lot=list(lot), plan=plan), told)
                for value in (told, *told, *(row for row, _ in told)):
                    self.assertIs(type(value), tuple)

    def test_first_seen_for_each_together(self):
        told = {}
        for plan in PLANS:
            for together in range(1, plan.house_count + 1):
                first = first_by_hand(plan, together)
                self.assertEqual(first_seen(plan, together), first)
                self.assertEqual(first_seen(together=together, plan=plan), first)
                told.setdefault((type(plan), first is None), []).append(together)
            self.assertEqual(first_seen(plan), first_by_hand(plan, 1))
        for kind in (Plan, TablePlan):
            self.assertLessEqual({1, 2, 3}, set(told[kind, True]))
            self.assertLessEqual({1, 2, 3}, set(told[kind, False]))

    def test_named_plans(self):
        self.assertIsNone(first_seen(sums_sample(2, 3, 2), 2))
        self.assertIsNone(first_seen(sums_sample(3, 2, 2)))
        self.assertIsNone(first_seen(least_sample(2, 3, 2)))
        self.assertEqual(first_seen(least_sample(2, 3, 2), 2), ((0, 1), (0, 0), 1, 0, 1))
        self.assertIsNone(first_seen(whole_sample(2, 3, 2, 1, 1), 3))
        self.assertEqual(first_seen(copies_sample(2, 2, 3, 1)), ((0,), (0,), 2, 0, 1))
        self.assertIsNone(first_seen(copies_sample(2, 3, 1, 2), 3))

    def test_the_first_wish_that_is_unlike(self):
        # Wish 1 sees as wish 0 does; wish 2 does not, and in the second house only.
        plan = Plan(2, 1, 3, (((), ((1, 0, 0),)),) * 2, ((5, ((0, 0), (0, 0), (0, 1))), (7, ((1, 1), (1, 1), (1, 1)))))
        self.assertEqual(first_seen(plan), ((1,), (0,), 2, 5, 0))
        self.assertEqual(first_seen(plan, 2), ((0, 1), (0, 0), 2, 5, 0))

    def test_a_row_that_comes_for_no_first_wish(self):
        plan = Plan(2, 1, 2, (((), ((1, 0),)),), ((4, ((1,), (0,))), (3, ((1,), (1,)))))
        self.assertEqual(first_seen(plan), ((0,), (0,), 1, 0, 4))


class Guess(unittest.TestCase):
    def test_against_a_counting(self):
        for plan in PLANS:
            for lot in lots_of(plan):
                told = [counted(plan, lot, wish) for wish in range(plan.book_count)]
                rows = {row for weights in told for row in weights}
                best = sum(max(weights.get(row, 0) for weights in told) for row in rows)
                chance = guess_chance(plan, lot)
                self.assertIs(type(chance), Share)
                fraction = Fraction(best, plan.book_count * plan.weight)
                self.assertEqual((chance.top, chance.bottom), (fraction.numerator, fraction.denominator))
                self.assertEqual(guess_chance(lot=list(lot), plan=plan), chance)

    def test_no_guess_just_if_alike(self):
        told = []
        for plan in PLANS:
            for lot in lots_of(plan):
                alike = all(seen_by(plan, lot, wish) == seen_by(plan, lot, 0) for wish in range(plan.book_count))
                self.assertIs(guess_chance(plan, lot) == Share(1, plan.book_count), alike)
                told.append(alike)
        self.assertGreater(min(told.count(True), told.count(False)), 100)

    def test_named_plans(self):
        self.assertEqual(str(guess_chance(copies_sample(2, 2, 3, 1), (1,))), "1")
        self.assertEqual(str(guess_chance(sums_sample(2, 3, 2), (0, 2))), "1/2")
        self.assertEqual(str(guess_chance(sums_sample(2, 3, 2), (0, 1, 2))), "1")
        self.assertEqual(str(guess_chance(least_sample(2, 3, 2), (0, 1))), "1")
        plan = Plan(2, 1, 2, (((), ((1, 0),)),), ((4, ((1,), (0,))), (3, ((1,), (1,)))))
        self.assertEqual(str(guess_chance(plan, (0,))), "11/14")


class Wrong(unittest.TestCase):
    plans = (sums_sample(2, 3, 2), as_table(sums_sample(2, 3, 2)))

    def check(self, value, call):
        with self.assertRaises(InvalidNumber, msg=value) as caught:
            call()
        self.assertIs(caught.exception.value, value)

    def test_lots(self):
        wrong = NO_SEQUENCES + NO_INTEGERS + (
            (), [], (3,), [0, 3], (-1,), (0, 0), [1, 1], (1, 0), (0, 2, 1), (0, 1, 2, 3), (True,), (0, True), (None,),
            ("0",), ((0,),), [[0]], (0, None), (10 ** 40,), nested(10), {0: 0}, "0", "01", range(2), {0},
        )
        for plan in self.plans:
            for value in wrong:
                if value in ((1,), [1], (0, 1)) and type(value[0]) is int:
                    continue
                self.check(value, lambda: seen_by(plan, value, 0))
                self.check(value, lambda: seen_by(plan, value, None))
                self.check(value, lambda: guess_chance(plan, value))

    def test_wishes(self):
        for plan in self.plans:
            for value in NO_INTEGERS + (-1, 2, 10 ** 40, nested(10)):
                self.check(value, lambda: seen_by(plan, (0,), value))

    def test_numbers_of_houses(self):
        for plan in self.plans:
            for value in NO_INTEGERS + (-1, 0, 4, 10 ** 40, -10 ** 40, nested(10)):
                self.check(value, lambda: first_seen(plan, value))


if __name__ == "__main__":
    unittest.main()
