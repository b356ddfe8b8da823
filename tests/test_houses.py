"""Promise [38]: houses."""

import random
import unittest

from tests.asksamples import NO_MESSAGES, plans
from tests.makingsamples import Checks
from tests.plansamples import answers_by_hand
from tests.samples import NO_INTEGERS, nested
from wishunseen.editions import Shelf
from wishunseen.houses import House
from wishunseen.leastplan import least_plan
from wishunseen.libraries import Library
from wishunseen.plans import Plan
from wishunseen.tables import TablePlan

FIRST = Library(2, ((1,), (0,)))


def random_library(rng, plan):
    return Library(plan.p, [[rng.randrange(plan.p) for _ in range(plan.book_length)] for _ in range(plan.book_count)])


def answer_by_hand(plan, house, question, library):
    asked = [0] * plan.house_count
    asked[house] = question
    return answers_by_hand(plan, asked, library)[house]


class Houses(Checks):
    def test_each_question_of_each_house(self):
        rng = random.Random(38)
        kinds = set()
        for plan in plans():
            kinds.add(type(plan))
            for number, known in enumerate(plan.questions):
                library = random_library(rng, plan)
                house = House(number, plan, Shelf(library))
                self.assertEqual(house.heard, ())
                for question in range(len(known)):
                    told = ("answer", question, number, question, 0, answer_by_hand(plan, number, question, library))
                    found = house.hear(("ask", question, number, question))
                    self.assertTrue(type(found) is tuple and type(found[5]) is tuple)
                    self.assertEqual(found, told)
                    self.assertEqual(house.heard, tuple(range(question + 1)))
        self.assertEqual(kinds, {Plan, TablePlan})

    def test_against_the_words(self):
        """Random asks and changes of the shelf, against a house led by the words."""
        rng = random.Random(39)
        for plan in plans():
            shelf = Shelf(random_library(rng, plan))
            number = rng.randrange(plan.house_count)
            house = House(shelf=shelf, plan=plan, number=number)
            told, heard = {}, []
            for _ in range(80):
                if rng.random() < 0.2:
                    book = [rng.randrange(plan.p) for _ in range(plan.book_length)]
                    shelf.put(rng.randrange(plan.book_count), book)
                talk = rng.choice((0, 1, 2, 7, 10 ** 40))
                at = rng.randrange(plan.house_count + 1)
                question = rng.randrange(len(plan.questions[number]) + 1)
                expected = None
                if at == number and question < len(plan.questions[number]):
                    if talk not in told:
                        letters = answer_by_hand(plan, number, question, shelf.at())
                        told[talk] = ("answer", talk, number, question, shelf.edition, letters)
                    if told[talk][3] == question:
                        expected = told[talk]
                        heard.append(question)
                self.assertEqual(house.hear(("ask", talk, at, question)), expected)
                self.assertEqual(house.heard, tuple(heard))
            self.assertIs(type(house.heard), tuple)

    def test_the_same_again_and_another_question(self):
        house = House(0, least_plan(2, 2, 2), Shelf(FIRST))
        first = house.hear(("ask", 5, 0, 1))
        self.assertEqual(first, ("answer", 5, 0, 1, 0, (1,)))
        self.assertIsNone(house.hear(message=("ask", 5, 0, 0)))
        self.assertEqual(house.hear(("ask", 5, 0, 1)), first)
        self.assertEqual(house.hear(("ask", 4, 0, 0)), ("answer", 4, 0, 0, 0, ()))
        self.assertIsNone(house.hear(("ask", 4, 0, 1)))
        self.assertEqual(house.heard, (1, 1, 0))

    def test_books_that_are_put_between_two_asks(self):
        shelf = Shelf(FIRST)
        house = House(0, least_plan(2, 2, 2), shelf)
        self.assertEqual(house.hear(("ask", 0, 0, 1)), ("answer", 0, 0, 1, 0, (1,)))
        shelf.put(1, (1,))
        # The same talk keeps its edition, a further one has the last.
        self.assertEqual(house.hear(("ask", 0, 0, 1)), ("answer", 0, 0, 1, 0, (1,)))
        self.assertEqual(house.hear(("ask", 1, 0, 1)), ("answer", 1, 0, 1, 1, (0,)))
        self.assertEqual(house.hear(("ask", 0, 0, 1)), ("answer", 0, 0, 1, 0, (1,)))

    def test_books_that_are_put_between_two_makings(self):
        shelf = Shelf(FIRST)
        shelf.put(0, (0,))
        one = House(0, least_plan(2, 2, 2), shelf)
        shelf.put(1, (1,))
        other = House(1, least_plan(2, 2, 2), shelf)
        self.assertEqual(one.hear(("ask", 0, 0, 1)), ("answer", 0, 0, 1, 2, (1,)))
        self.assertEqual(other.hear(("ask", 0, 1, 0)), ("answer", 0, 1, 0, 2, (1,)))

    def test_houses_are_apart(self):
        shelf = Shelf(FIRST)
        one, other = House(0, least_plan(2, 2, 2), shelf), House(0, least_plan(2, 2, 2), shelf)
        one.hear(("ask", 0, 0, 1))
        self.assertEqual(other.heard, ())
        self.assertEqual(other.hear(("ask", 0, 0, 0)), ("answer", 0, 0, 0, 0, ()))

    def test_values_that_are_no_ask(self):
        house = House(0, least_plan(2, 2, 2), Shelf(FIRST))
        for value in NO_MESSAGES:
            self.assertIsNone(house.hear(value))
        self.assertIsNone(house.hear(house))
        self.assertEqual(house.heard, ())
        house.hear(("ask", 0, 0, 1))
        for value in NO_MESSAGES + (("answer", 0, 0, 1, 0, (1,)), ("ask", 0, 1, 1), ("ask", 0, 0, 2)):
            self.assertIsNone(house.hear(value))
        self.assertEqual(house.heard, (1,))

    def test_house_numbers_that_are_none(self):
        for plan in plans()[:3] + plans()[-3:]:
            for value in NO_INTEGERS + (plan.house_count, -1, 10 ** 40, -10 ** 40, nested(10)):
                self.check_number(value, House, value, plan, Shelf(random_library(random.Random(1), plan)))


if __name__ == "__main__":
    unittest.main()
