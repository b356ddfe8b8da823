"""Promise [16]: plans of tables."""

import copy
import itertools
import random
import unittest

from tests.plansamples import (
    NO_NUMBERS, NO_SEQUENCES, answers_by_hand, as_lists, few_parts, product_table, right_plans, table_parts,
)
from tests.samples import ANY_VALUES, NO_FIELDS, nested
from tests.test_plans import is_letter, spoilt_draws, wrong_part
from wishunseen.errors import InvalidPlan
from wishunseen.libraries import Library, every_library
from wishunseen.plans import Plan
from wishunseen.tables import TablePlan, as_table

# Two books of one letter for 2: the libraries are 00, 01, 10, 11.
NONE, AND, BOTH = (0, ((),) * 4), (1, ((0,), (0,), (0,), (1,))), (2, ((0, 0), (0, 1), (1, 0), (1, 1)))
QUESTIONS = ((NONE, AND, BOTH), (NONE, BOTH))
DRAWS = ((2, ((0, 1), (1, 1))), (1, ((2, 0), (2, 0))))
RIGHT = (2, 1, 2, QUESTIONS, DRAWS)


def is_table(p, columns, value):
    """Whether value is a question, by the words of the document."""
    if type(value) is not tuple or len(value) != 2:
        return False
    size, table = value
    return type(size) is int and size >= 0 and type(table) is tuple and len(table) == p ** columns and all(
        type(row) is tuple and len(row) == size and all(is_letter(p, letter) for letter in row) for row in table
    )


def wrong_table_part(*parts):
    return wrong_part(*parts, is_right=is_table)


def wrong_questions():
    """Questions that are none for two books of one letter for 2."""
    size, table = AND
    return (
        (), (1,), (1, table, table), (table, 1), [1, table], (1, list(table)), (True, table), (0, table), (2, table),
        (-1, table), (None, table), ("1", table), (1, table[1:]), (1, table + table[:1]), (1, ()), (1, None),
        (1, table[:3] + ([1],)), (1, table[:3] + ((2,),)), (1, table[:3] + ((-1,),)), (1, table[:3] + ((True,),)),
        (1, table[:3] + ((),)), (1, table[:3] + ((1, 1),)), (1, table[:3] + (1,)), (1, table[:3] + (None,)),
        (10 ** 40, table), (False, ((),) * 4), table, ((1, 0),), None, 1, "table", True, {}, nested(10),
    )


class Attributes(unittest.TestCase):
    def check(self, plan, parts):
        p, book_length, book_count, questions, draws = parts
        self.assertIs(type(plan), TablePlan)
        self.assertEqual(
            (plan.p, plan.book_length, plan.book_count, plan.house_count), (p, book_length, book_count, len(questions)),
        )
        self.assertEqual((plan.questions, plan.draws), (questions, draws))
        self.assertEqual(plan.weight, sum(weight for weight, _ in draws))
        for value in (plan.questions, *plan.questions, plan.draws, *plan.draws):
            self.assertIs(type(value), tuple)
        for _, asks in plan.draws:
            self.assertTrue(type(asks) is tuple and all(type(asked) is tuple for asked in asks))

    def test_tuples_and_lists(self):
        for parts in table_parts() + [RIGHT]:
            self.assertIsNone(wrong_table_part(*parts))
            questions, draws = as_lists(*parts[3:])
            self.check(TablePlan(*parts), parts)
            self.check(TablePlan(*parts[:3], questions, draws), parts)
            p, book_length, book_count = parts[:3]
            named = TablePlan(draws=draws, questions=questions, book_count=book_count, book_length=book_length, p=p)
            self.check(named, parts)

    def test_later_changes_have_no_effect(self):
        for parts in table_parts():
            questions, draws = as_lists(*parts[3:])
            before = copy.deepcopy((questions, draws))
            plan = TablePlan(*parts[:3], questions, draws)
            self.assertEqual((questions, draws), before)
            draws[0][1][0][0] = 99
            draws[0][0] = 0
            questions[0].clear()
            questions.append([])
            self.check(plan, parts)

    def test_asked_and_answers(self):
        for parts in table_parts():
            plan = TablePlan(*parts)
            libraries = every_library(plan.p, plan.book_count, plan.book_length)
            for house, questions in enumerate(plan.questions):
                for number, (size, table) in enumerate(questions):
                    self.assertEqual(plan.answer_size(house, number), size)
                    self.assertEqual(plan.answer_size(question=number, house=house), size)
                    for library, told in zip(libraries, table):
                        self.assertEqual(plan.answer(house, number, library), told)
                        self.assertEqual(plan.answer(library=library, question=number, house=house), told)
            for wish, draw in itertools.product(range(plan.book_count), range(len(plan.draws))):
                asked = parts[4][draw][1][wish]
                self.assertEqual(plan.asked(wish, draw), asked)
                self.assertEqual(plan.asked(draw=draw, wish=wish), asked)
                for library in libraries:
                    told = answers_by_hand(plan, asked, library)
                    self.assertEqual(plan.answers(wish, draw, library), told)
                    self.assertEqual(plan.answers(library=library, draw=draw, wish=wish), told)


class Equality(unittest.TestCase):
    def test_alike_and_unlike_in_one_part(self):
        for parts in table_parts() + [RIGHT]:
            questions, draws = as_lists(*parts[3:])
            one, other = TablePlan(*parts), TablePlan(*parts[:3], questions, draws)
            self.assertIs(one == other, True)
            self.assertIs(one != other, False)
        plan = TablePlan(*RIGHT)
        for at, value in (
            (3, ((NONE, BOTH, (2, BOTH[1][::-1])), QUESTIONS[1])), (3, (QUESTIONS[0], (NONE, (2, BOTH[1][::-1])))),
            (4, DRAWS[::-1]), (4, DRAWS[:1]), (4, ((3, DRAWS[0][1]), DRAWS[1])), (4, (*DRAWS, DRAWS[0])),
            (4, ((2, ((0, 0), (1, 1))), DRAWS[1])), (4, ((4, DRAWS[0][1]), (2, DRAWS[1][1]))),
        ):
            other = TablePlan(*RIGHT[:at], value, *RIGHT[at + 1:])
            self.assertIs(plan == other, False, value)
            self.assertIs(plan != other, True, value)
        # As many libraries, but books of another length and number, or another field.
        four = ((NONE,),)
        one, two = TablePlan(2, 2, 1, four, ((1, ((0,),)),)), TablePlan(2, 1, 2, four, ((1, ((0,), (0,))),))
        self.assertIs(one == two, False)
        self.assertIs(TablePlan(2, 1, 1, (((0, ((),) * 2),),), ((1, ((0,),)),)) == one, False)

    def test_plans_and_other_values(self):
        for linear in right_plans()[:6]:
            plan = as_table(linear)
            for value in ANY_VALUES + (linear, RIGHT, list(RIGHT), Library(2, ((1,), (0,)))):
                for told in (plan == value, value == plan):
                    self.assertIs(told, False)
                self.assertIs(plan != value, True)

    def test_neither_is_an_instance_of_the_other(self):
        self.assertNotIsInstance(TablePlan(*RIGHT), Plan)
        for linear in right_plans():
            self.assertNotIsInstance(linear, TablePlan)
        self.assertFalse(issubclass(TablePlan, Plan) or issubclass(Plan, TablePlan))


class WrongParts(unittest.TestCase):
    def check(self, parts, part, place):
        self.assertEqual(wrong_table_part(*parts), (part, place))
        with self.assertRaises(InvalidPlan, msg=parts) as caught:
            TablePlan(*parts)
        self.assertEqual((caught.exception.part, caught.exception.place), (part, place), parts)
        self.assertIs(type(caught.exception.place), int)

    def test_sizes(self):
        for value in NO_FIELDS + (nested(10),):
            self.check((value, *RIGHT[1:]), "field", 0)
            self.check((value, value, value, value, value), "field", 0)
        self.check((10 ** 40, 10 ** 40, 10 ** 40, QUESTIONS, DRAWS), "field", 0)
        for value in NO_NUMBERS + (0, nested(10)):
            self.check((2, value, 2, QUESTIONS, DRAWS), "length", 0)
            self.check((2, value, value, value, value), "length", 0)
            self.check((2, 1, value, QUESTIONS, DRAWS), "count", 0)
            self.check((2, 1, value, value, value), "count", 0)

    def test_sizes_that_do_not_fit_the_questions(self):
        for at, value in ((0, 3), (0, 5), (1, 2), (1, 3), (2, 1), (2, 3), (2, 6)):
            self.check((*RIGHT[:at], value, *RIGHT[at + 1:]), "questions", 0)
        self.check((2, 2, 1, QUESTIONS, DRAWS), "draws", 0)

    def test_questions(self):
        first, other = QUESTIONS
        rising = (first[::-1], (AND, AND), (NONE, BOTH, AND), [BOTH, NONE], 0, None, "", True, {}, (*first, *first))
        for value in rising + tuple((question,) for question in wrong_questions()):
            self.check((2, 1, 2, (value, other), DRAWS), "questions", 0)
            self.check((2, 1, 2, [other, value], DRAWS), "questions", 1)
            self.check((2, 1, 2, [other, other, first, value], None), "questions", 3)
        for question in wrong_questions():
            self.check((2, 1, 2, (first, [NONE, AND, question]), DRAWS), "questions", 1)
        for value in NO_SEQUENCES + ((), [], nested(10), {}):
            self.check((2, 1, 2, value, DRAWS), "questions", 0)

    def test_questions_of_linear_plans(self):
        self.check((2, 1, 2, (((), ((1, 0),)),), ((1, ((0,), (1,))),)), "questions", 0)

    def test_draws(self):
        asks = DRAWS[0][1]
        for value in (
            (), (1,), (1, asks, asks), (0, asks), (-1, asks), (True, asks), (None, asks), (1, ()), (1, asks[:1]),
            (1, (*asks, asks[0])), (1, None), (1, (asks[0], None)), (1, (asks[0], (0,))), (1, (asks[0], (0, 0, 0))),
            (1, (asks[0], (0, 2))), (1, (asks[0], (3, 0))), (1, (asks[0], (0, -1))), (1, (asks[0], (True, 0))),
            (1, (asks[0], (None, 0))), (1, (asks[0], "00")), None, 7, "12", {},
        ):
            self.check((2, 1, 2, QUESTIONS, (value,)), "draws", 0)
            self.check((2, 1, 2, QUESTIONS, [*DRAWS, value, value]), "draws", 2)
        for value in NO_SEQUENCES + ((), [], nested(10), {}):
            self.check((2, 1, 2, QUESTIONS, value), "draws", 0)
        self.check((2, 1, 2, ((NONE,), ()), DRAWS), "draws", 0)
        self.check((2, 1, 2, ([], None), None), "questions", 1)

    def test_several_at_once(self):
        rng = random.Random(7)
        told = set()
        for parts in table_parts() * 4:
            spoilt = list(parts)
            if rng.random() < 0.5:
                house = rng.randrange(len(parts[3]))
                asked = list(parts[3][house])
                asked[rng.randrange(len(asked))] = rng.choice(wrong_questions())
                spoilt[3] = (*parts[3][:house], asked, *parts[3][house + 1:])
            if rng.random() < 0.5:
                spoilt[4] = spoilt_draws(rng, parts[4])
            if rng.random() < 0.3:
                spoilt[rng.randrange(3)] = rng.choice((0, -3, True, None, "2"))
            wrong = wrong_table_part(*spoilt)
            if wrong is None:
                self.assertEqual(TablePlan(*spoilt).p, spoilt[0])
            else:
                told.add(wrong)
                self.check(spoilt, *wrong)
        self.assertLessEqual({("field", 0), ("questions", 0), ("questions", 2), ("draws", 0), ("draws", 2)}, told)


class Tabled(unittest.TestCase):
    def check(self, plan):
        table = as_table(plan)
        self.assertIs(type(table), TablePlan)
        self.assertEqual(as_table(plan=plan), table)
        sizes = (plan.p, plan.book_length, plan.book_count, plan.house_count, plan.weight)
        self.assertEqual((table.p, table.book_length, table.book_count, table.house_count, table.weight), sizes)
        libraries = every_library(plan.p, plan.book_count, plan.book_length)
        for house, questions in enumerate(plan.questions):
            told = sorted(
                (len(question), tuple(plan.answer(house, number, library) for library in libraries))
                for number, question in enumerate(questions)
            )
            self.assertEqual(table.questions[house], tuple(told))
        self.assertEqual([weight for weight, _ in table.draws], [weight for weight, _ in plan.draws])
        for wish, draw in itertools.product(range(plan.book_count), range(len(plan.draws))):
            for library in libraries:
                self.assertEqual(table.answers(wish, draw, library), plan.answers(wish, draw, library))
        return [
            number for asks, other in zip(plan.draws, table.draws) for asked in asks[1] for number in asked
        ] != [number for asks in table.draws for asked in asks[1] for number in asked]

    def test_the_plans_own_answers(self):
        plans = [plan for plan in right_plans() if plan.p ** (plan.book_count * plan.book_length) <= 64]
        renumbered = [self.check(plan) for plan in plans + [Plan(*parts) for parts in few_parts()]]
        self.assertIn(True, renumbered)
        self.assertIn(False, renumbered)

    def test_tables_that_rise_otherwise(self):
        # As questions the longer one comes first, and the row 0,1 ahead of 1,0; as tables it is the other way round.
        long, short, low, high = ((0, 0), (0, 0)), ((1, 1),), ((0, 1),), ((1, 0),)
        plan = Plan(2, 1, 2, ((long, short), (low, high)), ((1, ((0, 0), (1, 1))),))
        table = as_table(plan)
        self.assertEqual([size for size, _ in table.questions[0]], [1, 2])
        self.assertEqual(table.questions[1], ((1, ((0,), (0,), (1,), (1,))), (1, ((0,), (1,), (0,), (1,)))))
        self.assertEqual(table.draws, ((1, ((1, 1), (0, 0))),))

    def test_a_plan_of_tables_that_is_not_linear(self):
        plan = product_table()
        self.assertEqual(plan.answers(0, 2, Library(2, ((1,), (1,)))), ((1,), (1,)))
        self.assertEqual(plan.answers(0, 2, Library(2, ((1,), (0,)))), ((0,), (1,)))


if __name__ == "__main__":
    unittest.main()
