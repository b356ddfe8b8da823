"""Promise [28]: plans with books, houses and questions in other places."""

import itertools
import random
import unittest

from tests.makingsamples import Checks, invertible, parts, parts_by_hand, plain_plans, product_by_hand
from tests.plansamples import NO_SEQUENCES, draws_of
from tests.samples import NO_INTEGERS, nested, random_matrix
from wishunseen.leastplan import least_plan
from wishunseen.making import rehoused_plan, remixed_plan, reordered_plan
from wishunseen.matrices import unit_matrix
from wishunseen.plans import Plan
from wishunseen.sums import sums_plan, whole_plan

PLAINS = plain_plans()
NO_ORDERS = NO_SEQUENCES + NO_INTEGERS + (
    (), [], (0,), [0], (0, 1), (1, 0), (0, 1, 1), [0, 0, 0], (2, 2, 1), (0, 1, 3), (1, 2, 3), (0, 1, -1), (0, 1, 2, 0),
    (0, 1, 2, 3), [3, 2, 1, 0], (0, True, 2), (False, 1, 2), [True, 0, 2], (0, 1, None), (None, None, None),
    (0, 1, "2"),
    "012", ((0, 1, 2),), [[0], [1], [2]], nested(10), (0, 1, (2,)), (0, 1, [2]), (0, 1, 10 ** 40),
)


def orders(count):
    return list(itertools.permutations(range(count)))


def reordered_by_hand(plan, order):
    length = plan.book_length

    def moved(question):
        return tuple(
            tuple(row[order[k] * length + letter] for k in range(plan.book_count) for letter in range(length))
            for row in question
        )

    draws = [
        (weight, [[moved(question) for question in asks[order[k]]] for k in range(plan.book_count)])
        for weight, asks in draws_of(plan)
    ]
    return parts_by_hand(plan.p, length, plan.book_count, plan.house_count, draws)


def rehoused_by_hand(plan, order):
    draws = [
        (weight, [[ask[order[n]] for n in range(plan.house_count)] for ask in asks]) for weight, asks in draws_of(plan)
    ]
    return parts_by_hand(plan.p, plan.book_length, plan.book_count, plan.house_count, draws)


def remixed_by_hand(plan, house, question, matrix):
    draws = []
    for weight, asks in plan.draws:
        new = []
        for numbers in asks:
            ask = [plan.questions[n][number] for n, number in enumerate(numbers)]
            if numbers[house] == question:
                ask[house] = product_by_hand(plan.p, matrix, ask[house])
            new.append(ask)
        draws.append((weight, new))
    return parts_by_hand(plan.p, plan.book_length, plan.book_count, plan.house_count, draws)


class Reordered(Checks):
    def test_each_order(self):
        for plan in PLAINS:
            before = parts(plan)
            for order in orders(plan.book_count)[:9]:
                told = reordered_by_hand(plan, order)
                self.check_parts(reordered_plan(plan, order), told)
                self.check_parts(reordered_plan(order=list(order), plan=plan), told)
            self.assertEqual(parts(plan), before)

    def test_a_plan_written_out(self):
        plan = Plan.made(5, 2, 3, 1, [(3, [[((1, 2, 3, 4, 0, 1),)], [()], [((0, 0, 0, 0, 2, 3),)]])])
        self.assertEqual(reordered_plan(plan, (2, 0, 1)), Plan.made(5, 2, 3, 1, [
            (3, [[((2, 3, 0, 0, 0, 0),)], [((0, 1, 1, 2, 3, 4),)], [()]]),
        ]))
        self.assertEqual(reordered_plan(plan, (0, 1, 2)), plan)

    def test_orders_that_are_none(self):
        for plan in (least_plan(2, 2, 3), whole_plan(3, 2, 3, 2, 0)):
            for value in NO_ORDERS:
                self.check_number(value, reordered_plan, plan, value)
        for value in ((0, 1, 2), [1], (1,), (True,), ()):
            self.check_number(value, reordered_plan, least_plan(2, 2, 1), value)
        # As many as there are houses, and not as there are books.
        self.check_number((0, 1, 2), reordered_plan, least_plan(2, 3, 2), (0, 1, 2))


class Rehoused(Checks):
    def test_each_order(self):
        for plan in PLAINS:
            before = parts(plan)
            for order in orders(plan.house_count)[-9:]:
                told = rehoused_by_hand(plan, order)
                self.check_parts(rehoused_plan(plan, order), told)
                self.check_parts(rehoused_plan(order=list(order), plan=plan), told)
            self.assertEqual(parts(plan), before)

    def test_a_plan_written_out(self):
        one, two, three = ((0, 1),), ((1, 0),), ((1, 1), (0, 1))
        plan = Plan.made(2, 1, 2, 3, [(2, [[one, two, three], [(), one, two]]), (1, [[one, one, ()], [two, two, two]])])
        self.assertEqual(rehoused_plan(plan, [2, 0, 1]), Plan.made(2, 1, 2, 3, [
            (2, [[three, one, two], [two, (), one]]), (1, [[(), one, one], [two, two, two]]),
        ]))

    def test_orders_that_are_none(self):
        for plan in (least_plan(2, 3, 2), whole_plan(3, 3, 1, 2, 0)):
            for value in NO_ORDERS:
                self.check_number(value, rehoused_plan, plan, value)
        self.check_number((0, 1, 2), rehoused_plan, least_plan(2, 2, 3), (0, 1, 2))


class Remixed(Checks):
    def test_each_question(self):
        rng = random.Random(28)
        for plan in PLAINS:
            before = parts(plan)
            for house, known in enumerate(plan.questions):
                for question in range(len(known))[:4]:
                    matrix = invertible(rng, plan.p, len(known[question]))
                    told = remixed_by_hand(plan, house, question, matrix)
                    self.check_parts(remixed_plan(plan, house, question, matrix), told)
                    self.check_parts(remixed_plan(matrix=matrix, question=question, house=house, plan=plan), told)
            self.assertEqual(parts(plan), before)

    def test_the_question_without_rows(self):
        for plan in (least_plan(2, 2, 2), least_plan(3, 3, 2), sums_plan(2, 3, 2), whole_plan(2, 3, 2, 2, 1)):
            house = 0
            question = plan.questions[house].index(())
            self.assertEqual(remixed_plan(plan, house, question, ()), plan)
            for value in (((),), ((1,),), [], None, ((0,),), 0):
                self.check_matrix(value, remixed_plan, plan, house, question, value)

    def test_a_question_that_becomes_another_one(self):
        plan = Plan.made(3, 1, 1, 1, [(1, [[((1,),)]]), (2, [[((2,),)]])])
        self.assertEqual(remixed_plan(plan, 0, 0, ((2,),)), Plan.made(3, 1, 1, 1, [(1, [[((2,),)]]), (2, [[((2,),)]])]))
        self.assertEqual(remixed_plan(plan, 0, 1, ((2,),)).questions, (((((1,),),)),))

    def test_only_this_house_and_question(self):
        # Both houses have the question ((1, 0), (0, 1)); only the one of house 1 is mixed.
        both = ((1, 0), (0, 1))
        plan = Plan.made(5, 2, 1, 2, [(1, [[both, both]]), (1, [[both, ()]])])
        self.assertEqual(remixed_plan(plan, 1, 1, ((1, 2), (3, 2))), Plan.made(5, 2, 1, 2, [
            (1, [[both, ((1, 2), (3, 2))]]), (1, [[both, ()]]),
        ]))

    def test_a_great_question(self):
        rng = random.Random(4)
        plan = whole_plan(31, 2, 4, 6, 1)
        matrix = invertible(rng, 31, 24)
        self.assertEqual(remixed_plan(plan, 1, 0, matrix).questions, (((),), (matrix,)))
        self.assertEqual(remixed_plan(plan, 1, 0, unit_matrix(24)), plan)
        for value in (matrix[:23], (*matrix[:23], matrix[0]), matrix * 2):
            self.check_matrix(value, remixed_plan, plan, 1, 0, value)

    def test_houses_and_questions_that_there_are_not(self):
        plan = whole_plan(3, 3, 2, 1, 0)
        for value in NO_INTEGERS + (3, -1, 10 ** 40, -10 ** 40, nested(10)):
            self.check_number(value, remixed_plan, plan, value, 0, unit_matrix(2))
            self.check_number(value, remixed_plan, plan, value, value, value)
        for value in NO_INTEGERS + (1, -1, 10 ** 40, nested(10)):
            self.check_number(value, remixed_plan, plan, 0, value, unit_matrix(2))
            self.check_number(value, remixed_plan, plan, 0, value, None)

    def test_matrices_that_are_none(self):
        plan = whole_plan(3, 3, 2, 1, 0)
        wrong = NO_INTEGERS + (
            (), ((),), ((), ()), ((1,),), ((1, 0),), ((1, 0), (0, 1), (0, 0)), ((1, 0, 0), (0, 1, 0)),
            ((1, 0, 0), (0, 1, 0), (0, 0, 1)), ((1, 0), (0,)), ((1, 0), (0, 3)), ((1, 0), (0, -1)), ((1, 0), (0, True)),
            ((1, 0), (0, None)), ((1, 0), (0, "1")), ((1, 0), [0, 1]), [(1, 0), (0, 1)], [[1, 0], [0, 1]],
            ((0, 0), (0, 0)), ((1, 2), (2, 1)), ((1, 1), (1, 1)), ((0, 1), (0, 2)), ((1, 0), (0, 1), ()), nested(10), 7,
            ((1, 0), None), ((1, 0), 7), ((1, 0), "01"),
        )
        for value in wrong:
            self.check_matrix(value, remixed_plan, plan, 0, 0, value)

    def test_ranks_by_trying_all_matrices(self):
        plan = whole_plan(2, 2, 2, 1, 1)
        made = 0
        for letters in itertools.product(range(2), repeat=4):
            matrix = (letters[:2], letters[2:])
            if (letters[0] * letters[3] - letters[1] * letters[2]) % 2 == 0:
                self.check_matrix(matrix, remixed_plan, plan, 1, 0, matrix)
            else:
                self.assertEqual(remixed_plan(plan, 1, 0, matrix).questions[1], (matrix,))
                made += 1
        self.assertEqual(made, 6)

    def test_other_sizes(self):
        rng = random.Random(5)
        for rows in (1, 2, 3):
            plan = Plan.made(5, 3, 1, 1, [(1, [[random_matrix(rng, 5, rows, 3)]])])
            for size in (0, 1, 2, 3, 4):
                matrix = invertible(rng, 5, size)
                if size != rows:
                    self.check_matrix(matrix, remixed_plan, plan, 0, 0, matrix)


if __name__ == "__main__":
    unittest.main()
