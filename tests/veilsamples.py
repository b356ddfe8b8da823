"""Veiled plans that the tests share, and what is told of them by trying out all libraries and tapes."""

import itertools
import random

from tests.plansamples import answers_by_hand, changed_questions, few_parts, linear_answer, right_plans
from tests.samples import random_matrix
from wishunseen.leastplan import least_plan
from wishunseen.libraries import every_library
from wishunseen.plans import Plan
from wishunseen.points import PointPlan
from wishunseen.sums import sums_plan, whole_plan
from wishunseen.veils import VeiledPlan, veiled_least_plan


def random_masks(rng, plan, common):
    return [[random_matrix(rng, plan.p, len(question), common) for question in known] for known in plan.questions]


def alike_masks(plan, mask):
    """The same row for each row of each question."""
    return [[(mask,) * len(question) for question in known] for known in plan.questions]


def veiled_points(*sizes):
    """A plan by points, with the masks by which houses veil their values."""
    points = PointPlan(*sizes)
    plan = points.as_plan()
    masks = [
        [(tuple((house + 1) ** i % points.p for i in range(points.together)),) for _ in known]
        for house, known in enumerate(plan.questions)
    ]
    return VeiledPlan(plan, points.together, masks)


def veiled_sums():
    """Two books of one letter for 2; three houses, whose two common letters cancel each other."""
    rows = [(a, b) for a in range(2) for b in range(2)]
    draws = []
    for one, two in itertools.product(rows, repeat=2):
        asks = []
        for wish in ((1, 0), (0, 1)):
            last = tuple((a - b - c) % 2 for a, b, c in zip(wish, one, two))
            asks.append([(one,), (two,), (last,)])
        draws.append((1, asks))
    plan = Plan.made(2, 1, 2, 3, draws)
    masks = [[(row,)] * len(known) for row, known in zip(((1, 0), (0, 1), (1, 1)), plan.questions)]
    return VeiledPlan(plan, 2, masks)


def good_veils():
    """Veiled plans that are right and veiled, with few libraries and tapes."""
    found = [veiled_least_plan(2, 2, 1), veiled_least_plan(2, 2, 2), veiled_least_plan(3, 2, 2)]
    found += [veiled_least_plan(2, 3, 2), veiled_least_plan(2, 2, 3), veiled_least_plan(2, 4, 1), veiled_sums()]
    found += [veiled_points(3, 2, 1, 1, 0, 0), veiled_points(3, 2, 2, 1, 0, 0), veiled_points(5, 4, 1, 2, 1, 0)]
    # Books alone need no veil, and letters that mask nothing change nothing.
    whole = whole_plan(3, 2, 1, 2, 1)
    return found + [VeiledPlan(whole, 1, alike_masks(whole, (0,))), VeiledPlan(whole, 2, alike_masks(whole, (0, 0)))]


def bad_veils():
    """Veiled plans in which a mask or a question is spoilt, and masks that are drawn."""
    rng = random.Random(35)
    found = []
    for veiled in good_veils():
        plan, common = veiled.plan, veiled.common
        for _ in range(2):
            masks = [list(known) for known in veiled.masks]
            house = rng.randrange(plan.house_count)
            at = rng.randrange(len(masks[house]))
            masks[house][at] = random_matrix(rng, plan.p, len(masks[house][at]), common)
            found.append(VeiledPlan(plan, common, masks))
        for other in changed_questions(plan)[:2]:
            if all(len(question) == 1 for known in other.questions for question in known):
                masks = [[(known[0][0],)] * len(new) for known, new in zip(veiled.masks, other.questions)]
                found.append(VeiledPlan(other, common, masks))
        found.append(VeiledPlan(plan, common, random_masks(rng, plan, common)))
        if plan.p == 2:
            found.append(VeiledPlan(plan, 3, random_masks(rng, plan, 3)))
    return found


def drawn_veils():
    """Plans that need not be right, with drawn masks and few libraries and tapes."""
    rng = random.Random(36)
    plans = [Plan(*parts) for parts in few_parts()] + right_plans()
    plans += [least_plan(2, 2, 2), sums_plan(2, 2, 2), sums_plan(2, 3, 2), whole_plan(2, 2, 2, 1, 0)]
    found = []
    for plan in plans:
        for common in (1, 2, 3):
            if plan.p ** (plan.book_count * plan.book_length + common) <= 250:
                found.append(VeiledPlan(plan, common, random_masks(rng, plan, common)))
    return found


def veiled_answers_by_hand(veiled, asked, library, tape):
    """The answers of all houses to the questions with these numbers."""
    p = veiled.plan.p
    return tuple(
        tuple((a + b) % p for a, b in zip(plain, linear_answer(p, veiled.masks[house][number], tape)))
        for house, (number, plain) in enumerate(zip(asked, answers_by_hand(veiled.plan, asked, library)))
    )


def every_tape(veiled):
    return list(itertools.product(range(veiled.plan.p), repeat=veiled.common))


def rows_by_hand(veiled, wish, draw):
    """For each library the number of tapes from which each row of answers comes."""
    plan = veiled.plan
    asked = plan.draws[draw][1][wish]
    found = []
    for library in every_library(plan.p, plan.book_count, plan.book_length):
        rows = {}
        for tape in every_tape(veiled):
            row = veiled_answers_by_hand(veiled, asked, library, tape)
            rows[row] = rows.get(row, 0) + 1
        found.append((library, rows))
    return found


def is_read_by_hand(wish, found):
    """Whether alike answers mean alike books."""
    books = {}
    for library, rows in found:
        for row in rows:
            if books.setdefault(row, library.books[wish]) != library.books[wish]:
                return False
    return True


def is_veiled_by_hand(wish, found):
    """Whether alike books mean alike rows of answers, from as many tapes."""
    counts = {}
    return all(counts.setdefault(library.books[wish], rows) == rows for library, rows in found)
