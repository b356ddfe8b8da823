"""Promises [12] and [13]: linear plans."""

import copy
import itertools
import random
import unittest

from tests.plansamples import (
    NO_NUMBERS, NO_SEQUENCES, answers_by_hand, as_lists, few_parts, many_parts, right_plans,
)
from tests.samples import ANY_VALUES, FIELDS, NO_FIELDS, nested, random_matrix
from wishunseen.editions import Shelf
from wishunseen.errors import InvalidLibrary, InvalidNumber, InvalidPlan
from wishunseen.libraries import Library, every_library
from wishunseen.plans import Plan
from wishunseen.tables import as_table

NO_POSITIVES = NO_NUMBERS + (0, -2)
# Two houses, two books of one letter for 3.
QUESTIONS = (((), ((1, 2),), ((2, 0), (0, 0))), (((0, 1),), ((1, 0),)))
DRAWS = ((2, ((0, 1), (1, 0))), (1, ((2, 0), (0, 0))))
RIGHT = (3, 1, 2, QUESTIONS, DRAWS)
NAMES = ("p", "book_length", "book_count", "questions", "draws")


def replaced(at, value, parts=RIGHT):
    return (*parts[:at], value, *parts[at + 1:])


def is_letter(p, value):
    return type(value) is int and 0 <= value < p


def is_question(p, columns, value):
    return type(value) is tuple and all(
        type(row) is tuple and len(row) == columns and all(is_letter(p, letter) for letter in row) for row in value
    )


def is_number(value, limit):
    return type(value) is int and 0 <= value < limit


def wrong_part(p, book_length, book_count, questions, draws, is_right=is_question):
    """The part and place that the document tells as the first wrong one, or None."""
    if type(p) is not int or p not in FIELDS:
        return ("field", 0)
    for word, value in (("length", book_length), ("count", book_count)):
        if type(value) is not int or value <= 0:
            return (word, 0)
    if type(questions) not in (list, tuple) or not questions:
        return ("questions", 0)
    for n, asked in enumerate(questions):
        if type(asked) not in (list, tuple) or not all(is_right(p, book_length * book_count, q) for q in asked):
            return ("questions", n)
        if any(not one < other for one, other in zip(asked, asked[1:])):
            return ("questions", n)
    return wrong_draw(draws, book_count, [len(asked) for asked in questions])


def wrong_draw(draws, book_count, counts):
    if type(draws) not in (list, tuple) or not draws:
        return ("draws", 0)
    for d, draw in enumerate(draws):
        if type(draw) not in (list, tuple) or len(draw) != 2:
            return ("draws", d)
        weight, asks = draw
        if type(weight) is not int or weight <= 0 or type(asks) not in (list, tuple) or len(asks) != book_count:
            return ("draws", d)
        for asked in asks:
            if type(asked) not in (list, tuple) or len(asked) != len(counts):
                return ("draws", d)
            if not all(is_number(number, count) for number, count in zip(asked, counts)):
                return ("draws", d)
    return None


def spoilt_questions(rng, p, columns, questions):
    """Some questions that differ at one place, mostly wrong ones."""
    found = [list(asked) for asked in questions]
    house = rng.randrange(len(found))
    asked = found[house]
    at = rng.randrange(len(asked))
    found[house] = rng.choice((
        asked[::-1], asked + asked[-1:], asked[:at] + [asked[at]] + asked[at:], [], None, 3, "ask", {}, asked + [None],
        asked[:at] + [list(asked[at])] + asked[at + 1:], asked[:at] + [True] + asked[at + 1:],
        asked + [((p,) * columns,)], asked + [((0,) * (columns + 1),)], asked + [((p - 1,) * columns,) * 3],
        [((0,) * columns, (0,) * (columns - 1))], [((True,) + (0,) * (columns - 1),)], [((-1,) * columns,)],
        [([0] * columns,)], [((None,) * columns,)], [((),)], [(0,) * columns], tuple(asked), (asked,),
    ))
    return found


def spoilt_draws(rng, draws):
    """Some draws that differ at one place, mostly wrong ones."""
    found = [[weight, [list(asked) for asked in asks]] for weight, asks in draws]
    d = rng.randrange(len(found))
    weight, asks = found[d]
    asked = rng.choice(asks)
    at = rng.randrange(len(asked))
    way = rng.randrange(6)
    if way == 0:
        asked[at] = rng.choice((-1, 10 ** 9, None, True, "0", 1, 0, (0,), [], len(asked)))
    elif way == 1:
        found[d][0] = rng.choice((0, -1, True, None, "1", (1,), 10 ** 200))
    elif way == 2:
        found[d] = rng.choice((None, 5, "12", (), [weight], (weight, asks, asks), (asks, weight), {}, {weight: asks}))
    elif way == 3:
        found[d][1] = rng.choice((None, 5, "12", (), asks + [asked], asks[1:], {}, asked, [asks]))
    elif way == 4:
        asks[rng.randrange(len(asks))] = rng.choice((None, 0, "0", (), asked + [0], asked[1:], {}, [asked]))
    else:
        return rng.choice((None, 0, "draws", (), [], {}, found[:0], True))
    return found


class Attributes(unittest.TestCase):
    def check(self, plan, parts):
        p, book_length, book_count, questions, draws = parts
        self.assertIs(type(plan), Plan)
        self.assertEqual(
            (plan.p, plan.book_length, plan.book_count, plan.house_count), (p, book_length, book_count, len(questions)),
        )
        self.assertEqual((plan.questions, plan.draws), (questions, draws))
        self.assertEqual(plan.weight, sum(weight for weight, _ in draws))
        for value in (plan.questions, *plan.questions, plan.draws, *plan.draws):
            self.assertIs(type(value), tuple)
        for _, asks in plan.draws:
            self.assertTrue(type(asks) is tuple and all(type(asked) is tuple for asked in asks))

    def test_tuples_and_lists(self):
        for parts in many_parts():
            questions, draws = as_lists(*parts[3:])
            self.check(Plan(*parts), parts)
            self.check(Plan(*parts[:3], questions, draws), parts)
            self.check(Plan(draws=tuple(draws), questions=tuple(questions), **dict(zip(NAMES, parts[:3]))), parts)

    def test_later_changes_have_no_effect(self):
        for parts in many_parts():
            questions, draws = as_lists(*parts[3:])
            plan = Plan(*parts[:3], questions, draws)
            before = copy.deepcopy((questions, draws))
            self.assertEqual((questions, draws), before)
            draws[0][1][0][0] = 99
            draws[0][1].pop()
            draws[0][0] = 0
            draws.append(None)
            questions[0].clear()
            questions.append([])
            self.check(plan, parts)

    def test_a_house_may_have_questions_that_are_not_asked(self):
        plan = Plan(2, 1, 1, ((((0,),), ((1,),)),), ((1, ((1,),)),))
        self.assertEqual(plan.questions, ((((0,),), ((1,),)),))

    def test_up_to_the_limits(self):
        rng = random.Random(3)
        questions = tuple(
            tuple(sorted({random_matrix(rng, 31, size, 24) for size in range(25)})) for _ in range(6)
        )
        draws = tuple((10 ** 200 - k, (((k % 25),) * 6,) * 4) for k in range(300))
        self.check(Plan(31, 6, 4, questions, draws), (31, 6, 4, questions, draws))


class Equality(unittest.TestCase):
    def test_alike_and_unlike_in_one_part(self):
        for parts in many_parts()[::5] + [RIGHT]:
            questions, draws = as_lists(*parts[3:])
            one, other = Plan(*parts), Plan(*parts[:3], questions, draws)
            self.assertIs(one == other, True)
            self.assertIs(one != other, False)
            self.assertIs(one == one, True)
        plan = Plan(*RIGHT)
        others = (
            replaced(0, 5), replaced(3, (QUESTIONS[0], (((0, 1),), ((1, 1),)))), replaced(4, DRAWS[::-1]),
            replaced(4, DRAWS[:1]), replaced(4, ((3, DRAWS[0][1]), DRAWS[1])), replaced(4, (DRAWS[0], *DRAWS)),
            replaced(4, ((2, ((0, 1), (1, 1))), DRAWS[1])), replaced(3, (QUESTIONS[0], (*QUESTIONS[1], ((2, 2),)))),
            replaced(4, ((4, DRAWS[0][1]), (2, DRAWS[1][1]))),
        )
        for parts in others:
            self.assertIs(plan == Plan(*parts), False, parts)
            self.assertIs(plan != Plan(*parts), True, parts)
        # Alike columns, but books of another length and number.
        asks = ((0,),)
        self.assertIs(Plan(2, 1, 2, (((),),), ((1, asks * 2),)) == Plan(2, 2, 1, (((),),), ((1, asks),)), False)
        self.assertIs(Plan(2, 1, 1, (((),),), ((1, asks),)) == Plan(2, 2, 1, (((),),), ((1, asks),)), False)

    def test_other_values(self):
        plan = Plan(*RIGHT)
        for value in ANY_VALUES + (RIGHT, list(RIGHT), DRAWS, as_table(plan), Library(3, ((1,), (2,)))):
            self.assertIs(plan == value, False)
            self.assertIs(value == plan, False)
            self.assertIs(plan != value, True)


class Asking(unittest.TestCase):
    def test_asked(self):
        for parts in many_parts():
            plan = Plan(*parts)
            for wish, draw in itertools.product(range(plan.book_count), range(len(plan.draws))):
                asked = parts[4][draw][1][wish]
                self.assertEqual(plan.asked(wish, draw), asked)
                self.assertEqual(plan.asked(draw=draw, wish=wish), asked)
                rows = [row for house, number in enumerate(asked) for row in parts[3][house][number]]
                self.assertEqual(plan.asked_rows(wish, draw), tuple(rows))
                self.assertIs(type(plan.asked_rows(wish=wish, draw=draw)), tuple)

    def test_answers_for_every_library(self):
        for parts in few_parts():
            plan = Plan(*parts)
            for library in every_library(plan.p, plan.book_count, plan.book_length):
                self.check_answers(plan, library)

    def test_answers_of_larger_plans(self):
        rng = random.Random(4)
        for parts in many_parts():
            plan = Plan(*parts)
            books = [[rng.randrange(plan.p) for _ in range(plan.book_length)] for _ in range(plan.book_count)]
            self.check_answers(plan, Library(plan.p, books))

    def check_answers(self, plan, library):
        for house, questions in enumerate(plan.questions):
            for number, question in enumerate(questions):
                told = tuple(
                    sum(row[c] * library.letters[c] for c in range(len(library.letters))) % plan.p for row in question
                )
                self.assertEqual(plan.answer(house, number, library), told)
                self.assertEqual(plan.answer(library=library, question=number, house=house), told)
                self.assertEqual(plan.answer_size(house, number), len(question))
        for wish, draw in itertools.product(range(plan.book_count), range(len(plan.draws))):
            told = answers_by_hand(plan, plan.draws[draw][1][wish], library)
            self.assertEqual(plan.answers(wish, draw, library), told)
            self.assertEqual(plan.answers(library=library, draw=draw, wish=wish), told)


class WrongArguments(unittest.TestCase):
    plan = Plan(*RIGHT)
    library = Library(3, ((1,), (2,)))

    def check(self, error, value, call):
        with self.assertRaises(error) as caught:
            call()
        self.assertIs(caught.exception.value, value)

    def test_wishes_and_draws(self):
        for plan in (self.plan, as_table(self.plan)):
            calls = [plan.asked, lambda wish, draw: plan.answers(wish, draw, None)]
            calls += [plan.asked_rows] if isinstance(plan, Plan) else []
            for value in NO_NUMBERS + (2, 3, 10 ** 40, nested(10)):
                for call in calls:
                    self.check(InvalidNumber, value, lambda: call(value, 0))
                    self.check(InvalidNumber, value, lambda: call(value, None))
                    self.check(InvalidNumber, value, lambda: call(1, value))

    def test_houses_and_questions(self):
        for plan in (self.plan, as_table(self.plan)):
            for call in (plan.answer_size, lambda house, question: plan.answer(house, question, None)):
                for value in NO_NUMBERS + (3, 10 ** 40, nested(10)):
                    self.check(InvalidNumber, value, lambda: call(value, 0))
                    self.check(InvalidNumber, value, lambda: call(value, None))
                    self.check(InvalidNumber, value, lambda: call(0, value))
                self.check(InvalidNumber, 2, lambda: call(2, 0))
                self.check(InvalidNumber, 2, lambda: call(1, 2))
            self.assertEqual(plan.answer_size(0, 2), 2)

    def test_libraries(self):
        wrong = ANY_VALUES + (
            Library(2, ((1,), (1,))), Library(5, ((1,), (2,))), Library(3, ((1,),)), Library(3, ((1,), (2,), (0,))),
            Library(3, ((1, 2),)), Library(3, ((1, 2), (0, 0))), ((1,), (2,)), Shelf(self.library), nested(10),
            self.plan, InvalidLibrary(None),
        )
        for plan in (self.plan, as_table(self.plan)):
            for value in wrong:
                self.check(InvalidLibrary, value, lambda: plan.answer(0, 0, value))
                self.check(InvalidLibrary, value, lambda: plan.answers(0, 0, value))
        longer = Plan(3, 2, 1, ((((1, 2),),),), ((1, ((0,),)),))
        self.check(InvalidLibrary, self.library, lambda: longer.answer(0, 0, self.library))


class WrongParts(unittest.TestCase):
    def check(self, parts, part, place):
        self.assertEqual(wrong_part(*parts), (part, place))
        with self.assertRaises(InvalidPlan, msg=parts) as caught:
            Plan(*parts)
        self.assertEqual((caught.exception.part, caught.exception.place), (part, place), parts)
        self.assertIs(type(caught.exception.place), int)

    def test_sizes(self):
        for value in NO_FIELDS + (nested(10),):
            self.check(replaced(0, value), "field", 0)
            self.check((value, value, value, value, value), "field", 0)
        for value in NO_POSITIVES + (nested(10),):
            self.check(replaced(1, value), "length", 0)
            self.check((3, value, value, value, value), "length", 0)
            self.check(replaced(2, value), "count", 0)
            self.check((3, 1, value, value, value), "count", 0)

    def test_sizes_that_do_not_fit_the_questions(self):
        for at, value in ((1, 2), (1, 10 ** 40), (2, 1), (2, 3), (2, 10 ** 40)):
            self.check(replaced(at, value), "questions", 0)
        self.check((3, 1, 2, (((),),), ((1, ((0,),)),)), "draws", 0)
        self.check((3, 1, 2, (((),),), ((1, ((0,), (0,), (0,))),)), "draws", 0)

    def test_questions(self):
        good, other = QUESTIONS
        wrong = (
            good[::-1], (good[0], good[0]), (good[1], good[1]), (good[0], good[2], good[1]), [good[2], good[1]],
            (list(good[1]),), ([1, 2],), ([(1, 2)],), (([1, 2],),), (((1, 2, 0),),), (((1,),),), (((),),), (((1, 3),),),
            (((1, -1),),), (((1, True),),), (((1, None),),), ((1, 2),), (1,), (None,), ("",), 0, None, "", True, {},
            (((1, 2), (1,)),), ((((1,), (2,)),),),
        )
        for value in wrong:
            self.check(replaced(3, (value, other)), "questions", 0)
            self.check(replaced(3, (value, value)), "questions", 0)
            self.check(replaced(3, [other, value]), "questions", 1)
            self.check((3, 1, 2, [other, other, good, value], None), "questions", 3)
        for value in NO_SEQUENCES + ((), [], nested(10), {}):
            self.check(replaced(3, value), "questions", 0)

    def test_draws(self):
        weight, asks = DRAWS[0]
        wrong = (
            (), (weight,), (weight, asks, asks), (asks, weight), weight, None, "12", {}, [weight], [asks],
            (0, asks), (-1, asks), (True, asks), (None, asks), ("1", asks), ((1,), asks),
            (weight, ()), (weight, asks[:1]), (weight, (*asks, asks[0])), (weight, None), (weight, 1), (weight, "00"),
            (weight, (asks[0], None)), (weight, (asks[0], 0)), (weight, (asks[0], (0,))),
            (weight, (asks[0], (0, 0, 0))),
            (weight, (asks[0], "00")), (weight, (asks[0], (0, 2))), (weight, (asks[0], (3, 0))),
            (weight, (asks[0], (-1, 0))), (weight, (asks[0], (0, -1))), (weight, ((0, True), asks[0])),
            (weight, ((None, 0), asks[0])), (weight, ((10 ** 40, 0), asks[0])), (weight, (((0,), 0), asks[0])),
        )
        for value in wrong:
            self.check(replaced(4, (value,)), "draws", 0)
            self.check(replaced(4, [DRAWS[0], value]), "draws", 1)
            self.check(replaced(4, (*DRAWS, *DRAWS, value, value)), "draws", 4)
        for value in NO_SEQUENCES + ((), [], nested(10), {}):
            self.check(replaced(4, value), "draws", 0)

    def test_a_house_without_questions(self):
        self.check(replaced(3, (QUESTIONS[0], ())), "draws", 0)
        self.check((2, 1, 1, ((),), ((1, ((0,),)),)), "draws", 0)
        self.check((2, 1, 1, [[]], ((1, ((),)),)), "draws", 0)
        self.check((2, 1, 1, [[], None], None), "questions", 1)

    def test_one_part_and_several_at_once(self):
        rng = random.Random(5)
        told = set()
        for parts in many_parts() * 6:
            spoilt = list(parts)
            for at in {rng.randrange(5) for _ in range(rng.randint(1, 3))}:
                if at == 3:
                    spoilt[3] = spoilt_questions(rng, parts[0], parts[1] * parts[2], parts[3])
                elif at == 4:
                    spoilt[4] = spoilt_draws(rng, parts[4])
                else:
                    spoilt[at] = rng.choice((0, -3, True, None, "2", (2,), 4, 6, 2, 3))
            wrong = wrong_part(*spoilt)
            if wrong is None:
                self.assertEqual(Plan(*spoilt).p, spoilt[0])
            else:
                told.add(wrong)
                self.check(spoilt, *wrong)
        self.assertLessEqual({("questions", 0), ("questions", 2), ("draws", 0), ("draws", 3)}, told)

    def test_right_plans_are_plans(self):
        for plan in right_plans():
            self.assertIsNone(wrong_part(plan.p, plan.book_length, plan.book_count, plan.questions, plan.draws))


if __name__ == "__main__":
    unittest.main()
