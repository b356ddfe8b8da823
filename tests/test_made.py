"""Promise [14]: plans made of draws of questions."""

import copy
import random
import unittest

from tests.plansamples import NO_NUMBERS, NO_SEQUENCES, many_parts
from tests.samples import NO_FIELDS, nested
from tests.test_plans import is_question, wrong_draw
from wishunseen.errors import InvalidPlan
from wishunseen.plans import Plan

ONE, TWO, NONE = ((1, 2),), ((0, 0), (2, 0)), ()
DRAWS = ((2, ((ONE, NONE), (TWO, ONE))), (1, ((ONE, ONE), (NONE, ONE))))
RIGHT = (3, 1, 2, 2, DRAWS)


def with_questions(questions, draws):
    """The draws with the questions in the place of their numbers."""
    return tuple(
        (weight, tuple(tuple(questions[n][number] for n, number in enumerate(asked)) for asked in asks))
        for weight, asks in draws
    )


def only_asked(questions, draws):
    """The questions that are asked, and the draws by their numbers among these."""
    kept = [sorted({asked[n] for _, asks in draws for asked in asks}) for n in range(len(questions))]
    new = tuple(
        (weight, tuple(tuple(kept[n].index(number) for n, number in enumerate(asked)) for asked in asks))
        for weight, asks in draws
    )
    return tuple(tuple(questions[n][number] for number in numbers) for n, numbers in enumerate(kept)), new


def wrong_part(p, book_length, book_count, house_count, draws):
    """The part and place that the document tells as the first wrong one, or None."""
    if type(p) is not int or p not in (2, 3, 5, 7, 11, 13, 17, 19, 23, 29, 31):
        return ("field", 0)
    for word, value in (("length", book_length), ("count", book_count), ("houses", house_count)):
        if type(value) is not int or value <= 0:
            return (word, 0)
    return wrong_draw(numbered(draws, p, book_length * book_count), book_count, [1] * house_count)


def numbered(draws, p, columns):
    """The draws with 0 in the place of each question, and None in that of what is none, where they have that form."""
    def told(value):
        return 0 if is_question(p, columns, value) else None

    if type(draws) not in (list, tuple):
        return draws
    return [
        [draw[0], [
            [told(question) for question in asked] if type(asked) in (list, tuple) else asked for asked in draw[1]
        ] if type(draw[1]) in (list, tuple) else draw[1]]
        if type(draw) in (list, tuple) and len(draw) == 2 else draw
        for draw in draws
    ]


class Making(unittest.TestCase):
    def test_as_plan_of_the_same_parts(self):
        for p, book_length, book_count, questions, draws in many_parts():
            given = with_questions(questions, draws)
            told = Plan(p, book_length, book_count, *only_asked(questions, draws))
            as_lists = [[weight, [list(asked) for asked in asks]] for weight, asks in given]
            for made in (
                Plan.made(p, book_length, book_count, len(questions), given),
                Plan.made(p, book_length, book_count, len(questions), as_lists),
                told.made(draws=given, house_count=len(questions), book_count=book_count, book_length=book_length, p=p),
            ):
                self.assertIs(type(made), Plan)
                self.assertEqual(made, told)
                self.assertEqual((made.questions, made.draws), (told.questions, told.draws))
                self.assertEqual((made.house_count, made.weight), (told.house_count, told.weight))

    def test_questions_that_come_several_times_are_one(self):
        plan = Plan.made(*RIGHT)
        self.assertEqual(plan.questions, ((NONE, TWO, ONE), (NONE, ONE)))
        self.assertEqual(plan.draws, ((2, ((2, 0), (1, 1))), (1, ((2, 1), (0, 1)))))
        doubled = Plan.made(3, 1, 2, 2, DRAWS + DRAWS)
        self.assertEqual(doubled.questions, plan.questions)
        self.assertEqual(doubled.draws, plan.draws + plan.draws)

    def test_later_changes_have_no_effect(self):
        draws = [[weight, [list(asked) for asked in asks]] for weight, asks in DRAWS]
        before = copy.deepcopy(draws)
        plan = Plan.made(3, 1, 2, 2, draws)
        self.assertEqual(draws, before)
        draws[0][1][0][0] = NONE
        draws.pop()
        self.assertEqual(plan, Plan.made(*RIGHT))

    def test_more_draws_than_plans_are_passed_with(self):
        rows = [((a, b, c, d),) for a in range(5) for b in range(5) for c in range(5) for d in range(5)][:600]
        plan = Plan.made(5, 2, 2, 1, [(1, [(row,), (rows[0],)]) for row in rows])
        self.assertEqual(len(plan.questions[0]), 600)
        self.assertEqual(plan.asked(0, 599), (599,))


class WrongParts(unittest.TestCase):
    def check(self, parts, part, place):
        self.assertEqual(wrong_part(*parts), (part, place))
        with self.assertRaises(InvalidPlan, msg=parts) as caught:
            Plan.made(*parts)
        self.assertEqual((caught.exception.part, caught.exception.place), (part, place), parts)

    def test_sizes(self):
        for value in NO_FIELDS + (nested(10),):
            self.check((value, *RIGHT[1:]), "field", 0)
            self.check((value, value, value, value, value), "field", 0)
        for value in NO_NUMBERS + (0, nested(10)):
            self.check((3, value, 2, 2, DRAWS), "length", 0)
            self.check((3, value, value, value, value), "length", 0)
            self.check((3, 1, value, 2, DRAWS), "count", 0)
            self.check((3, 1, value, value, value), "count", 0)
            self.check((3, 1, 2, value, DRAWS), "houses", 0)
            self.check((3, 1, 2, value, value), "houses", 0)
        for value in (1, 3, 10 ** 40):
            self.assertRaises(InvalidPlan, Plan.made, 3, 1, 2, value, DRAWS)
        for at, value in ((0, 2), (1, 2), (2, 1), (2, 3), (3, 1), (3, 3)):
            self.check((*RIGHT[:at], value, *RIGHT[at + 1:]), "draws", 0)

    def test_draws(self):
        asks = DRAWS[0][1]
        wrong = (
            (), (1,), (1, asks, asks), None, 7, "12", (0, asks), (-1, asks), (True, asks), (None, asks), (1, ()),
            (1, asks[:1]), (1, (*asks, asks[0])), (1, None), (1, (asks[0], None)), (1, (asks[0], (ONE,))),
            (1, (asks[0], (ONE, ONE, ONE))), (1, (asks[0], (ONE, list(ONE)))), (1, (asks[0], (ONE, ([1, 2],)))),
            (1, (asks[0], (ONE, ((1, 3),)))), (1, (asks[0], (ONE, ((1, 2, 0),)))), (1, (asks[0], (ONE, ((1,),)))),
            (1, (asks[0], (((1, True),), ONE))), (1, (asks[0], (((1, -1),), ONE))), (1, (asks[0], (0, 0))),
            (1, (asks[0], (None, ONE))), (1, (asks[0], ((), ((),)))), (1, (asks[0], ((1, 2), ONE))),
        )
        for value in wrong:
            self.check((3, 1, 2, 2, (value,)), "draws", 0)
            self.check((3, 1, 2, 2, [*DRAWS, value, *DRAWS, value]), "draws", 2)
        for value in NO_SEQUENCES + ((), [], nested(10), {}):
            self.check((3, 1, 2, 2, value), "draws", 0)

    def test_one_part_and_several_at_once(self):
        rng = random.Random(6)
        told = set()
        for p, book_length, book_count, questions, draws in many_parts() * 5:
            given = [[weight, [list(asked) for asked in asks]] for weight, asks in with_questions(questions, draws)]
            parts = [p, book_length, book_count, len(questions), given]
            for _ in range(rng.randint(1, 2)):
                at = rng.randrange(8)
                if at < 4:
                    parts[at] = rng.choice((0, -1, None, True, "1", 1, 2, 3, 4))
                else:
                    draw = rng.choice(given)
                    asked = rng.choice(draw[1])
                    asked[rng.randrange(len(asked))] = rng.choice((
                        (), ((0,) * (book_count * book_length),), ((p,) * (book_count * book_length),), [], 0, None,
                        ((0,) * (book_count * book_length + 1),), [(0,) * (book_count * book_length)],
                    ))
            wrong = wrong_part(*parts)
            if wrong is None:
                self.assertEqual(Plan.made(*parts).house_count, parts[3])
            else:
                told.add(wrong)
                self.check(parts, *wrong)
        self.assertLessEqual({("field", 0), ("length", 0), ("count", 0), ("houses", 0), ("draws", 3)}, told)


if __name__ == "__main__":
    unittest.main()
