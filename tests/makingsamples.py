"""What the tests of plans made from others share."""

import unittest
from fractions import Fraction

from tests.plansamples import (
    copies_sample, draws_of, least_plans, many_parts, mixture, of_draws, rank_by_basis, right_plans, sums_sample,
    wasting_plans, whole_sample,
)
from tests.samples import random_matrix
from wishunseen.errors import InvalidMatrix, InvalidNumber, InvalidPlan, Undefined
from wishunseen.leastplan import least_plan
from wishunseen.plans import Plan
from wishunseen.shares import Share
from wishunseen.sums import sums_plan, whole_plan


def parts_by_hand(p, book_length, book_count, house_count, draws):
    """The parts of Plan.made of these draws, by the words of the document."""
    questions = tuple(tuple(sorted({ask[n] for _, asks in draws for ask in asks})) for n in range(house_count))
    numbered = tuple(
        (weight, tuple(tuple(questions[n].index(question) for n, question in enumerate(ask)) for ask in asks))
        for weight, asks in draws
    )
    return (p, book_length, book_count, questions, numbered)


def parts(plan):
    return (plan.p, plan.book_length, plan.book_count, plan.questions, plan.draws)


def plain_plans():
    """Least plans, plans of sums, whole plans and drawn plans, with one to six houses and one to four books."""
    found = [
        least_plan(2, 2, 1), least_plan(2, 2, 2), least_plan(3, 3, 2), least_plan(2, 3, 3), least_plan(5, 2, 4),
        least_plan(31, 3, 2, 2), least_plan(2, 2, 2, 6), least_plan(7, 6, 2), sums_plan(2, 2, 3), sums_plan(3, 3, 2),
        sums_plan(2, 4, 1), whole_plan(2, 1, 1, 1, 0), whole_plan(5, 6, 4, 2, 5), whole_plan(3, 2, 2, 3, 0),
        whole_plan(13, 3, 3, 1, 1),
    ]
    return found + [Plan(*part) for part in many_parts()]


def hidden_plans():
    """Plans that are right and hidden from one house at least."""
    return wasting_plans() + least_plans() + right_plans()


def half_right_plans():
    """Plans that are right, but seen by each house, and plans that are hidden, but not right."""
    blind = [each_first_asked(plan) for plan in (least_plan(2, 3, 2), sums_plan(3, 2, 2), whole_plan(2, 3, 2, 2, 1))]
    copies = copies_sample(2, 3, 2, 1)
    seen = [copies, copies_sample(3, 2, 3, 1), mixture(sums_sample(2, 3, 2), copies)]
    return seen + blind + [each_first_asked(plan) for plan in seen]


def each_first_asked(plan):
    """The plan with what is asked for wish 0 asked for each wish: hidden from all houses, right for none but one."""
    return of_draws(plan, [(weight, [asks[0]] * plan.book_count) for weight, asks in draws_of(plan)])


def product_by_hand(p, matrix, rows):
    width = len(rows[0]) if rows else 0
    return tuple(tuple(sum(a * row[c] for a, row in zip(line, rows)) % p for c in range(width)) for line in matrix)


def invertible(rng, p, size):
    """Some matrix of as many rows, columns and rank."""
    while True:
        matrix = random_matrix(rng, p, size, size)
        if rank_by_basis(p, matrix) == size:
            return matrix


def as_fraction(share):
    return Fraction(share.top, share.bottom)


def all_shares(wastes):
    """The vain, beyond and twice of wastes as one row of fractions."""
    vain, beyond, twice = wastes
    assert all(type(share) is Share for share in (vain, *beyond, *twice))
    return [as_fraction(share) for share in (vain, *beyond, *twice)]


class Checks(unittest.TestCase):
    def check_number(self, value, function, *arguments):
        self.check_value(InvalidNumber, value, function, *arguments)

    def check_matrix(self, value, function, *arguments):
        self.check_value(InvalidMatrix, value, function, *arguments)

    def check_value(self, kind, value, function, *arguments):
        with self.assertRaises(kind, msg=arguments) as caught:
            function(*arguments)
        self.assertIs(caught.exception.value, value, arguments)

    def check_undefined(self, what, function, *arguments):
        with self.assertRaises(Undefined, msg=arguments) as caught:
            function(*arguments)
        self.assertEqual(caught.exception.what, what)

    def check_plan(self, part, place, function, *arguments):
        with self.assertRaises(InvalidPlan, msg=arguments) as caught:
            function(*arguments)
        self.assertEqual((caught.exception.part, caught.exception.place), (part, place), arguments)

    def check_parts(self, plan, told):
        self.assertIs(type(plan), Plan)
        self.assertEqual(parts(plan), told)
        self.assertEqual(plan.house_count, len(told[3]))
        self.assertEqual(plan.weight, sum(weight for weight, _ in told[4]))
