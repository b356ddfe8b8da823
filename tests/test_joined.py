"""Promise [29]: plans beside each other, mixed, turned, and for fewer books."""

import math
import random
import unittest

from tests.makingsamples import Checks, each_first_asked, parts, parts_by_hand, plain_plans
from tests.plansamples import copies_sample, draws_of, random_parts
from tests.samples import NO_INTEGERS, nested
from wishunseen.leastplan import least_plan
from wishunseen.making import beside_plans, left_out_plan, mixed_plans, rehoused_plan, turned_plan
from wishunseen.plans import Plan
from wishunseen.sums import sums_plan, whole_plan

PLAINS = plain_plans()
NO_SHARES = NO_INTEGERS + (0, -1, 1000, 1001, 10 ** 40, -10 ** 40, nested(10))


def pairs(like):
    """Pairs of plans that are like each other, few draws each, and plans besides themselves."""
    rng = random.Random(29)
    found = [(plan, plan) for plan in PLAINS if len(plan.draws) <= 8]
    found += [(one, other) for one in PLAINS for other in PLAINS if one != other and like(one) == like(other)]
    for p, houses, book_count in ((2, 1, 1), (2, 2, 3), (3, 3, 2), (5, 1, 4), (7, 6, 2), (31, 2, 2)):
        for _ in range(3):
            one, other = [
                Plan(*random_parts(rng, p, houses, book_count, 2, draws=rng.randint(1, 5), most_weight=10 ** 9))
                for _ in range(2)
            ]
            found.append((one, other))
    return found


def beside_by_hand(one, other):
    draws = []
    for weight, asks in draws_of(one):
        for factor, others in draws_of(other):
            draws.append((weight * factor, [
                [firsts(one, other, ask[n]) + seconds(one, other, ask_too[n]) for n in range(one.house_count)]
                for ask, ask_too in zip(asks, others)
            ]))
    return parts_by_hand(one.p, one.book_length + other.book_length, one.book_count, one.house_count, draws)


def firsts(one, other, question):
    found = []
    for row in question:
        new = ()
        for k in range(one.book_count):
            new += row[k * one.book_length:(k + 1) * one.book_length] + (0,) * other.book_length
        found.append(new)
    return tuple(found)


def seconds(one, other, question):
    found = []
    for row in question:
        new = ()
        for k in range(one.book_count):
            new += (0,) * one.book_length + row[k * other.book_length:(k + 1) * other.book_length]
        found.append(new)
    return tuple(found)


def mixed_by_hand(one, other, first, second):
    draws = [(weight * first * other.weight, asks) for weight, asks in draws_of(one)]
    draws += [(weight * second * one.weight, asks) for weight, asks in draws_of(other)]
    common = math.gcd(*[weight for weight, _ in draws])
    draws = [(weight // common, asks) for weight, asks in draws]
    return parts_by_hand(one.p, one.book_length, one.book_count, one.house_count, draws)


def turned_by_hand(plan):
    houses = plan.house_count
    draws = [
        (weight, [[ask[(n + r) % houses] for n in range(houses)] for ask in asks])
        for r in range(houses) for weight, asks in draws_of(plan)
    ]
    return parts_by_hand(plan.p, plan.book_length, plan.book_count, houses, draws)


def left_out_by_hand(plan, book):
    length = plan.book_length

    def left(question):
        rows = [row[:book * length] + row[(book + 1) * length:] for row in question]
        return tuple(row for row in rows if row != (0,) * len(row))

    draws = [
        (weight, [[left(question) for question in ask] for wish, ask in enumerate(asks) if wish != book])
        for weight, asks in draws_of(plan)
    ]
    return parts_by_hand(plan.p, length, plan.book_count - 1, plan.house_count, draws)


class Beside(Checks):
    def test_each_pair(self):
        lengths = set()
        for one, other in pairs(lambda plan: (plan.p, plan.house_count, plan.book_count)):
            if len(one.draws) * len(other.draws) > 600:
                continue
            before = parts(one), parts(other)
            told = beside_by_hand(one, other)
            self.check_parts(beside_plans(one, other), told)
            self.check_parts(beside_plans(other=other, one=one), told)
            self.assertEqual((parts(one), parts(other)), before)
            lengths.add((one.book_length, other.book_length))
        self.assertGreater(len(lengths), 4)

    def test_a_plan_written_out(self):
        one = Plan.made(5, 1, 2, 1, [(2, [[((1, 2),)], [()]]), (3, [[()], [((3, 4), (0, 1))]])])
        other = Plan.made(5, 2, 2, 1, [(7, [[((1, 1, 2, 2),)], [((0, 0, 0, 4),)]])])
        self.assertEqual(beside_plans(one, other), Plan.made(5, 3, 2, 1, [
            (14, [[((1, 0, 0, 2, 0, 0), (0, 1, 1, 0, 2, 2))], [((0, 0, 0, 0, 0, 4),)]]),
            (21, [[((0, 1, 1, 0, 2, 2),)], [((3, 0, 0, 4, 0, 0), (0, 0, 0, 1, 0, 0), (0, 0, 0, 0, 0, 4))]]),
        ]))

    def test_plans_that_do_not_fit(self):
        plan = least_plan(2, 3, 2)
        for other in (least_plan(3, 3, 2), least_plan(2, 2, 2), least_plan(2, 3, 3), least_plan(2, 3, 1)):
            self.check_plan("beside", 0, beside_plans, plan, other)
            self.check_plan("beside", 0, beside_plans, other, plan)
        # Books of other lengths do fit.
        self.assertEqual(beside_plans(plan, whole_plan(2, 3, 2, 4, 2)).book_length, 6)

    def test_as_many_draws_as_are_asked_for(self):
        rows = [((a, b),) for a in range(5) for b in range(5)]
        one = Plan.made(5, 1, 2, 1, [(a + 1, [[rows[a]], [rows[0]]]) for a in range(25)])
        other = Plan.made(5, 1, 2, 1, [(a + 1, [[rows[a]], [()]]) for a in range(24)])
        self.check_parts(beside_plans(one, other), beside_by_hand(one, other))
        self.assertEqual(len(beside_plans(one, other).draws), 600)


class Mixed(Checks):
    def test_each_pair(self):
        for one, other in pairs(lambda plan: (plan.p, plan.book_length, plan.house_count, plan.book_count)):
            before = parts(one), parts(other)
            for first, second in ((1, 1), (1, 999), (999, 1), (6, 4), (998, 999)):
                told = mixed_by_hand(one, other, first, second)
                self.check_parts(mixed_plans(one, other, first, second), told)
                self.assertEqual(math.gcd(*[weight for weight, _ in told[4]]), 1)
            self.check_parts(mixed_plans(one, other), mixed_by_hand(one, other, 1, 1))
            self.check_parts(mixed_plans(one, other, 3), mixed_by_hand(one, other, 3, 1))
            told = mixed_by_hand(one, other, 1, 5)
            self.check_parts(mixed_plans(second=5, other=other, one=one), told)
            self.assertEqual((parts(one), parts(other)), before)

    def test_a_plan_written_out(self):
        one = Plan.made(3, 1, 1, 1, [(2, [[((1,),)]]), (4, [[()]])])
        other = Plan.made(3, 1, 1, 1, [(3, [[((2,),)]])])
        # 2, 4 times 5 * 3, and 3 times 2 * 6, divided by 6.
        self.assertEqual(mixed_plans(one, other, 5, 2), Plan.made(3, 1, 1, 1, [
            (5, [[((1,),)]]), (10, [[()]]), (6, [[((2,),)]]),
        ]))
        # A plan alone becomes one of weights without a common divisor, twice.
        self.assertEqual([weight for weight, _ in mixed_plans(one, one).draws], [1, 2, 1, 2])

    def test_great_weights(self):
        great = 10 ** 200
        one = Plan.made(3, 1, 1, 1, [(great - 1, [[((1,),)]]), (great - 3, [[()]])])
        other = Plan.made(3, 1, 1, 1, [(great - 4, [[((2,),)]]), (7, [[((1,),)]])])
        for first, second in ((1, 1), (999, 998), (4, 6)):
            self.check_parts(mixed_plans(one, other, first, second), mixed_by_hand(one, other, first, second))

    def test_plans_that_do_not_fit(self):
        plan = least_plan(2, 3, 2)
        for other in (
            least_plan(3, 3, 2), least_plan(2, 2, 2, 2), least_plan(2, 3, 3), least_plan(2, 3, 2, 2),
            whole_plan(2, 3, 2, 1, 0), whole_plan(2, 4, 2, 2, 0), whole_plan(5, 3, 2, 2, 0), whole_plan(2, 3, 1, 2, 0),
        ):
            for numbers in ((), (1, 1), (0, 0), (None, 1000), (1, True)):
                self.check_plan("mixed", 0, mixed_plans, plan, other, *numbers)
                self.check_plan("mixed", 0, mixed_plans, other, plan, *numbers)

    def test_numbers_that_are_none(self):
        one, other = least_plan(2, 3, 2), whole_plan(2, 3, 2, 2, 0)
        for value in NO_SHARES:
            self.check_number(value, mixed_plans, one, other, value)
            self.check_number(value, mixed_plans, one, other, value, value)
            self.check_number(value, mixed_plans, one, other, value, 0)
            self.check_number(value, mixed_plans, one, other, 1, value)
            self.check_number(value, mixed_plans, one, other, 999, value)


class Turned(Checks):
    def test_each_plan(self):
        for plan in PLAINS:
            before = parts(plan)
            self.check_parts(turned_plan(plan), turned_by_hand(plan))
            self.check_parts(turned_plan(plan=plan), turned_by_hand(plan))
            self.assertEqual(parts(plan), before)
            if plan.house_count == 1:
                self.assertEqual(draws_of(turned_plan(plan)), draws_of(plan))

    def test_a_plan_written_out(self):
        one, two, three = ((0, 1),), ((1, 0),), ((1, 1), (0, 1))
        plan = Plan.made(2, 1, 2, 3, [(2, [[one, two, three], [(), one, two]]), (1, [[one, one, ()], [two, two, two]])])
        self.assertEqual(turned_plan(plan), Plan.made(2, 1, 2, 3, [
            (2, [[one, two, three], [(), one, two]]), (1, [[one, one, ()], [two, two, two]]),
            (2, [[two, three, one], [one, two, ()]]), (1, [[one, (), one], [two, two, two]]),
            (2, [[three, one, two], [two, (), one]]), (1, [[(), one, one], [two, two, two]]),
        ]))

    def test_turning_is_mixing_what_is_rehoused(self):
        plan = least_plan(3, 2, 3)
        self.assertEqual(turned_plan(plan), mixed_plans(plan, rehoused_plan(plan, (1, 0))))


class LeftOut(Checks):
    def test_each_book(self):
        emptied = 0
        for plan in PLAINS + [each_first_asked(plan) for plan in PLAINS[:9]]:
            before = parts(plan)
            for book in range(plan.book_count if plan.book_count > 1 else 0):
                told = left_out_by_hand(plan, book)
                self.check_parts(left_out_plan(plan, book), told)
                self.check_parts(left_out_plan(book=book, plan=plan), told)
                emptied += sum(() in new and () not in known for new, known in zip(told[3], plan.questions))
            self.assertEqual(parts(plan), before)
        self.assertGreater(emptied, 0)

    def test_questions_that_become_empty_and_alike(self):
        one, two, both = ((1, 0, 0, 0),), ((0, 0, 0, 1),), ((1, 0, 0, 1), (0, 1, 0, 0), (0, 0, 1, 0))
        noughts = (0,) * 4
        plan = Plan.made(2, 2, 2, 2, [
            (3, [[one, two], [both, ()]]), (2, [[two, both], [(noughts,), (noughts, *one)]]),
        ])
        self.assertEqual(left_out_plan(plan, 0), Plan.made(2, 2, 1, 2, [
            (3, [[((0, 1), (1, 0)), ()]]), (2, [[(), ()]]),
        ]))
        self.assertEqual(left_out_plan(plan, 1), Plan.made(2, 2, 1, 2, [
            (3, [[((1, 0),), ()]]), (2, [[(), ((1, 0), (0, 1))]]),
        ]))

    def test_rows_of_noughts_that_were_there(self):
        plan = Plan.made(3, 1, 2, 1, [(1, [[((0, 0), (1, 1), (0, 0))], [((0, 2), (0, 0))]])])
        self.assertEqual(left_out_plan(plan, 0), Plan.made(3, 1, 1, 1, [(1, [[((2,),)]])]))
        self.assertEqual(left_out_plan(plan, 1), Plan.made(3, 1, 1, 1, [(1, [[((1,),)]])]))

    def test_books_that_there_are_not(self):
        for plan in (least_plan(2, 3, 2), copies_sample(2, 3, 2, 1), sums_plan(3, 2, 2)):
            for value in NO_INTEGERS + (2, -1, 10 ** 40, nested(10)):
                self.check_number(value, left_out_plan, plan, value)

    def test_plans_of_one_book(self):
        for plan in (least_plan(2, 3, 1), whole_plan(5, 2, 1, 3, 1)):
            for value in NO_INTEGERS + (1, -1):
                self.check_number(value, left_out_plan, plan, value)
            self.check_undefined("book", left_out_plan, plan, 0)


if __name__ == "__main__":
    unittest.main()
