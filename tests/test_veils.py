"""Promise [35]: veiled plans, and what houses answer by them."""

import random
import unittest

from tests.makingsamples import Checks
from tests.plansamples import NO_SEQUENCES, many_parts
from tests.samples import NO_INTEGERS, nested
from tests.test_points import wrong_rows
from tests.veilsamples import alike_masks, every_tape, good_veils, random_masks, veiled_answers_by_hand
from wishunseen.errors import InvalidLibrary, InvalidTape
from wishunseen.leastplan import least_plan
from wishunseen.libraries import Library, every_library
from wishunseen.plans import Plan
from wishunseen.sums import whole_plan
from wishunseen.tables import as_table
from wishunseen.veils import VeiledPlan, veiled_least_plan

# Two houses, a book of two letters for 3; house 0 has three questions, house 1 two.
PLAN = Plan(3, 2, 1, [((), ((0, 1),), ((1, 0), (2, 2))), (((0, 1), (0, 1)), ((1, 1),))], [(1, [[0, 0]])])
MASKS = [[(), ((1, 2),), ((0, 1), (2, 0))], [((0, 0), (1, 1)), ((2, 2),)]]


class Making(Checks):
    def test_attributes(self):
        rng = random.Random(35)
        for plan in [PLAN] + [Plan(*parts) for parts in many_parts()]:
            for common in (1, 2, 3):
                masks = random_masks(rng, plan, common)
                for given in (masks, tuple(tuple(known) for known in masks), [tuple(known) for known in masks]):
                    veiled = VeiledPlan(plan, common, given)
                    self.assertEqual(veiled.plan, plan)
                    self.assertEqual(veiled.common, common)
                    self.assertEqual(veiled.masks, tuple(tuple(known) for known in masks))
                    self.assertTrue(all(type(known) is tuple for known in veiled.masks))
                self.assertEqual(VeiledPlan(masks=masks, common=common, plan=plan).masks, veiled.masks)

    def test_later_changes_have_no_effect(self):
        masks = [list(known) for known in MASKS]
        veiled = VeiledPlan(PLAN, 2, masks)
        self.assertEqual(masks, MASKS)
        masks[0][1] = ((0, 0),)
        masks.pop()
        self.assertEqual(veiled.masks, tuple(tuple(known) for known in MASKS))

    def test_common_that_is_none(self):
        for value in NO_INTEGERS + (0, 4, -1, 10 ** 40, nested(10)):
            self.check_plan("common", 0, VeiledPlan, PLAN, value, MASKS)
            self.check_plan("common", 0, VeiledPlan, PLAN, value, None)
        for value in (1, 3):
            self.check_plan("masks", 0, VeiledPlan, PLAN, value, MASKS)

    def test_masks_that_are_none(self):
        for value in NO_SEQUENCES + (
            (), [], MASKS[:1], MASKS[1:], MASKS + [[]], MASKS + MASKS[:1], {}, nested(10), (MASKS,),
            Library(2, ((1,),)),
        ):
            self.check_plan("masks", 0, VeiledPlan, PLAN, 2, value)

    def test_masks_of_one_house(self):
        wrong = NO_SEQUENCES + (
            (), [()], MASKS[0][:2], MASKS[0] + [()], MASKS[0][1:], MASKS[0][::-1], [(), ((1, 2),), ((0, 1),)],
            [(), ((1, 2), (0, 0)), ((0, 1), (2, 0))], [((0, 0),), ((1, 2),), ((0, 1), (2, 0))],
            [(), ((1,),), ((0, 1), (2, 0))], [(), ((1, 2, 0),), ((0, 1), (2, 0))], [(), ((1, 3),), ((0, 1), (2, 0))],
            [(), ((1, -1),), ((0, 1), (2, 0))], [(), ((True, 0),), ((0, 1), (2, 0))],
            [(), ((None, 0),), ((0, 1), (2, 0))], [(), (("1", 0),), ((0, 1), (2, 0))],
            [(), [(1, 2)], ((0, 1), (2, 0))], [(), ([1, 2],), ((0, 1), (2, 0))], [[], ((1, 2),), ((0, 1), (2, 0))],
            [None, ((1, 2),), ((0, 1), (2, 0))], [(), ((1, 2),), ((0, 1), (2,))], [(), ((1, 2),), None],
            [(), ((1, 2),), 7], [(), (1, 2), ((0, 1), (2, 0))], [(), ((1, 2),), ((0, 1), (2, 0)), None], nested(10),
        )
        for value in wrong:
            self.check_plan("masks", 0, VeiledPlan, PLAN, 2, [value, MASKS[1]])
            self.check_plan("masks", 0, VeiledPlan, PLAN, 2, [value, None])

    def test_the_first_house_that_is_wrong(self):
        plan = whole_plan(5, 4, 2, 1, 2)
        masks = alike_masks(plan, (1, 4, 0))
        for house in range(4):
            right = masks[house]
            for value in (None, [], [((),)], right * 2, [right[0] + ((1, 4, 0),)], [list(right[0])]):
                given = list(masks)
                given[house] = value
                self.check_plan("masks", house, VeiledPlan, plan, 3, given)
                given[3] = None
                self.check_plan("masks", house, VeiledPlan, plan, 3, given)

    def test_no_equality(self):
        self.assertNotEqual(VeiledPlan(PLAN, 2, MASKS), PLAN)


class Answers(Checks):
    def test_by_the_words(self):
        for veiled in good_veils() + [VeiledPlan(PLAN, 2, MASKS)]:
            plan = veiled.plan
            for library in every_library(plan.p, plan.book_count, plan.book_length)[:9]:
                for tape in every_tape(veiled)[:9]:
                    for house, known in enumerate(plan.questions):
                        for question in range(len(known)):
                            asked = [0] * plan.house_count
                            asked[house] = question
                            told = veiled_answers_by_hand(veiled, asked, library, tape)[house]
                            found = veiled.answer(house, question, library, tape)
                            self.assertIs(type(found), tuple)
                            self.assertEqual(found, told)
                            self.assertEqual(veiled.answer(house, question, library, list(tape)), told)

    def test_an_answer_written_out(self):
        veiled = VeiledPlan(PLAN, 2, MASKS)
        # 1 and 2 * 1 + 2 * 2, and besides 1 and 2 * 2.
        self.assertEqual(veiled.answer(0, 2, Library(3, ((1, 2),)), (2, 1)), (2, 1))
        self.assertEqual(veiled.answer(tape=[0, 1], library=Library(3, ((1, 2),)), question=0, house=0), ())

    def test_wrong_arguments_in_their_order(self):
        veiled = VeiledPlan(PLAN, 2, MASKS)
        library = Library(3, ((1, 2),))
        for value in NO_INTEGERS + (2, -1, 10 ** 40, nested(10)):
            self.check_number(value, veiled.answer, value, 0, library, (0, 0))
            self.check_number(value, veiled.answer, value, None, None, None)
            self.check_number(value, veiled.answer, 1, value, library, (0, 0))
            self.check_number(value, veiled.answer, 1, value, None, None)
        for value in NO_INTEGERS + (
            Library(3, ((1,),)), Library(3, ((1, 2), (0, 0))), Library(2, ((1, 1),)), 0, nested(10),
        ):
            self.check_value(InvalidLibrary, value, veiled.answer, 0, 2, value, (0, 0))
            self.check_value(InvalidLibrary, value, veiled.answer, 0, 2, value, None)
        for value in wrong_rows(3, 2):
            for house, question in ((0, 0), (0, 2), (1, 1)):
                self.check_value(InvalidTape, value, veiled.answer, house, question, library, value)

    def test_nothing_changes(self):
        veiled = veiled_least_plan(3, 2, 2)
        before = (veiled.plan, veiled.common, veiled.masks)
        tape = [2]
        veiled.answer(0, 0, Library(3, ((1,), (2,))), tape)
        self.assertEqual((veiled.plan, veiled.common, veiled.masks, tape), (*before, [2]))

    def test_a_plan_alone(self):
        # Plans of tables are not veiled: where one is told of, it is a linear plan.
        self.assertFalse(isinstance(as_table(least_plan(2, 2, 2)), Plan))


if __name__ == "__main__":
    unittest.main()
