"""Promise [40]: lines, and talks over them."""

import itertools
import random
import unittest

from tests.asksamples import plans, unread_plans
from tests.makingsamples import Checks
from tests.samples import NO_INTEGERS, nested
from tests.test_houses import answer_by_hand, random_library
from wishunseen.editions import Shelf
from wishunseen.hidden import first_seen
from wishunseen.leastplan import least_plan
from wishunseen.libraries import Library
from wishunseen.lines import Line, talk_over
from wishunseen.plans import Plan
from wishunseen.tables import as_table

A, B, C, D = [("ask", talk, 0, 0) for talk in range(4)]


class Lines(unittest.TestCase):
    def sent(self, marks, messages):
        line = Line(marks)
        return [line.send(message) for message in messages] + [line.rest()]

    def test_each_mark(self):
        for told, marks in (
            ([(A,), (B,), ()], (0, 0)), ([(), (B,), ()], (1, 0)), ([(A, A), (B,), ()], (2, 0)),
            ([(), (A, B), ()], (3, 0)), ([(), (), (A, B)], (3, 3)), ([(), (A, B, B), ()], (3, 2)),
            ([(), (), (A,)], (3, 1)), ([(), (), (B,)], (1, 3)), ([(A, A), (), (B,)], (2, 3)), ([(), (), ()], (1, 1)),
            ([(A, A), (B, B), ()], (2, 2)),
        ):
            for given in (marks, list(marks)):
                self.assertEqual(self.sent(given, (A, B)), told)
        self.assertEqual(self.sent((3, 3, 0, 3), (A, B, C, D)), [(), (), (A, B, C), (), (D,)])
        self.assertEqual(self.sent((3, 1, 3, 2), (A, B, C, D)), [(), (), (), (A, C, D, D), ()])

    def test_marks_that_are_used_up(self):
        self.assertEqual(self.sent((), (A, B)), [(A,), (B,), ()])
        self.assertEqual(self.sent([3], (A, B, C)), [(), (A, B), (C,), ()])
        self.assertEqual(self.sent([3], (A,)), [(), (A,)])

    def test_great_marks(self):
        for base in (4, 8, 4 * 10 ** 40):
            for marks in itertools.product(range(4), repeat=3):
                great = [base + mark for mark in marks]
                self.assertEqual(self.sent(great, (A, B, C)), self.sent(marks, (A, B, C)))

    def test_rest(self):
        line = Line(marks=[3, 3, 3, 0])
        self.assertEqual(line.rest(), ())
        line.send(message=A)
        self.assertEqual(line.rest(), (A,))
        self.assertEqual(line.rest(), ())
        line.send(B), line.send(B)
        self.assertEqual(line.send(C), (B, B, C))
        self.assertEqual(line.rest(), ())

    def test_messages_that_are_sent_again(self):
        self.assertEqual(self.sent((3, 2, 1, 0), (A, A, A, A)), [(), (A, A, A), (), (A,), ()])

    def test_what_comes_out_are_tuples(self):
        line = Line((0, 1, 2, 3))
        for message in (A, B, C, D):
            self.assertIs(type(line.send(message)), tuple)
        self.assertIs(type(line.rest()), tuple)

    def test_marks_that_are_changed_afterwards(self):
        marks = [1, 1]
        line = Line(marks)
        marks[0] = 0
        marks.clear()
        self.assertEqual((line.send(A), line.send(A), line.send(A)), ((), (), (A,)))

    def test_against_the_words(self):
        rng = random.Random(40)
        for _ in range(200):
            marks = [rng.randrange(20) for _ in range(rng.randrange(12))]
            line, left, held = Line(marks), list(marks), []
            for step in range(15):
                if rng.random() < 0.1:
                    self.assertEqual(line.rest(), tuple(held))
                    held = []
                    continue
                message = ("ask", step, 0, 0)
                mark = (left.pop(0) if left else 0) % 4
                told = []
                if mark in (0, 2):
                    told, held = held + [message] * (1 + mark // 2), []
                if mark == 3:
                    held.append(message)
                self.assertEqual(line.send(message), tuple(told))


class TalkByWords:
    """A talk led step by step by the words, with houses and an asker of its own."""

    def __init__(self, plan, library, edition, wish, draws, marks):
        self.plan, self.library, self.at = plan, library, edition
        self.wish, self.draws, self.marks = wish, draws, list(marks)
        self.held, self.queue = [], []
        self.told = [{} for _ in range(plan.house_count)]
        self.heard = [[] for _ in range(plan.house_count)]
        self.taken, self.found, self.edition, self.open = {}, None, None, True

    def send(self, message):
        mark = (self.marks.pop(0) if self.marks else 0) % 4
        if mark == 3:
            self.held.append(message)
        if mark in (0, 2):
            self.queue += self.held + [message] * (1 + mark // 2)
            self.held = []

    def clear(self):
        while self.queue:
            message = self.queue.pop(0)
            if message[0] == "ask":
                self.ask(message)
            elif self.open and message[1] == 0:
                self.taken[message[2]] = message
                self.open = len(self.taken) < self.plan.house_count
                if not self.open:
                    # All houses have the same library all the time, so that the first talk is always read.
                    self.found, self.edition = self.library.books[self.wish], self.at

    def ask(self, message):
        _, talk, house, question = message
        letters = answer_by_hand(self.plan, house, question, self.library)
        answer = self.told[house].setdefault(talk, ("answer", talk, house, question, self.at, letters))
        if answer[3] == question:
            self.heard[house].append(question)
            self.send(answer)

    def lead(self, rounds):
        asked = self.plan.draws[self.draws[0]][1][self.wish]
        for _ in range(rounds):
            if self.open:
                for house, question in [pair for pair in enumerate(asked) if pair[0] not in self.taken]:
                    self.send(("ask", 0, house, question))
                    self.clear()
                self.queue += self.held
                self.held = []
                self.clear()
        return self.found, self.edition, tuple(tuple(row) for row in self.heard)


class Talks(Checks):
    def test_the_example_of_the_document(self):
        plan, shelf = least_plan(2, 2, 2), Shelf(Library(2, ((1,), (1,))))
        told = ((1,), 0, ((1,), (0, 0)))
        for kind in (plan, as_table(plan)):
            found = talk_over(kind, shelf, 0, (1,), (3, 2, 0), 2)
            self.assertEqual([len(row) for row in found[2]], [1, 2])
            self.assertEqual(found[:2], told[:2])
        self.assertEqual(talk_over(plan, shelf, 0, (1,), (3, 2, 0), 2), told)
        by_name = talk_over(rounds=2, marks=[3, 2, 0], draws=[1], wish=0, shelf=shelf, plan=plan)
        self.assertEqual(by_name, told)

    def test_against_the_words(self):
        rng = random.Random(42)
        kinds = set()
        for plan in plans():
            for _ in range(60):
                shelf = Shelf(random_library(rng, plan))
                for _ in range(rng.randrange(3)):
                    book = [rng.randrange(plan.p) for _ in range(plan.book_length)]
                    shelf.put(rng.randrange(plan.book_count), book)
                wish = rng.randrange(plan.book_count)
                draws = [rng.randrange(len(plan.draws)) for _ in range(rng.randint(1, 3))]
                marks = [rng.randrange(9) for _ in range(rng.randrange(25))]
                rounds = rng.randrange(6)
                told = TalkByWords(plan, shelf.at(), shelf.edition, wish, draws, marks).lead(rounds)
                found = talk_over(plan, shelf, wish, draws, marks, rounds)
                self.assertEqual(found, told)
                self.assertTrue(all(type(row) is tuple for row in (found, found[2], *found[2])))
                kinds.add((type(plan), found[0] is None, any(len(row) > 1 for row in found[2])))
        self.assertEqual(len(kinds), 8)

    def test_no_rounds(self):
        plan = least_plan(3, 3, 2)
        shelf = Shelf(Library(3, ((1, 2), (0, 2))))
        self.assertEqual(talk_over(plan, shelf, 0, (1,), (), 0), (None, None, ((), (), ())))
        self.assertEqual(talk_over(plan, shelf, 0, (1,), (), 1), talk_over(plan, shelf, 0, (1,), (), 10 ** 40))

    def test_lost_doubled_and_late_messages(self):
        plan, shelf = least_plan(2, 2, 2), Shelf(Library(2, ((0,), (1,))))
        # Wish 1 by draw 0: both houses are asked their question 0.
        for marks, rounds, told in (
            ((1, 1), 1, (None, None, ((), ()))), ((1, 1), 2, ((1,), 0, ((0,), (0,)))),
            ((0, 1), 1, (None, None, ((0,), (0,)))), ((0, 1), 2, ((1,), 0, ((0, 0), (0,)))),
            ((2,), 1, ((1,), 0, ((0, 0), (0,)))), ((3,), 1, ((1,), 0, ((0,), (0,)))),
            ((3, 3), 1, ((1,), 0, ((0,), (0,)))), ((3, 3, 3), 1, ((1,), 0, ((0,), (0,)))),
            ((3, 3, 3, 3), 1, (None, None, ((0,), (0,)))), ((3, 3, 3, 3), 2, ((1,), 0, ((0, 0), (0, 0)))),
            ((0, 0, 2, 1, 1), 1, (None, None, ((0,), (0, 0)))),
        ):
            self.assertEqual(talk_over(plan, shelf, 1, [0], marks, rounds), told, marks)

    def test_a_shelf_with_several_editions(self):
        shelf = Shelf(Library(2, ((0,), (1,))))
        for k in (0, 1, 0):
            shelf.put(k, (k,))
        self.assertEqual(talk_over(least_plan(2, 2, 2), shelf, 1, (1,), (), 1)[:2], ((1,), 3))
        self.assertEqual(talk_over(least_plan(2, 2, 2), shelf, 0, (1,), (), 1)[:2], ((0,), 3))
        self.assertEqual((shelf.edition, shelf.at()), (3, Library(2, ((0,), (1,)))))

    def test_errors_of_the_asker(self):
        shelf = Shelf(Library(3, ((1,), (2,))))
        for plan in unread_plans():
            self.check_undefined("reader", talk_over, plan, Shelf(Library(2, ((1,), (0,)))), None, None, (), 0)
        for plan in (least_plan(3, 2, 2), as_table(least_plan(3, 2, 2))):
            for value in NO_INTEGERS + (2, -1, nested(10)):
                self.check_number(value, talk_over, plan, shelf, value, None, (), 0)
            for value in (None, (), [], (2,), (0, -1), (True,), 0, "0", nested(10)):
                self.check_number(value, talk_over, plan, shelf, 0, value, (1, 2), 3)

    def test_houses_hear_alike_for_each_wish(self):
        """The draws being drawn apart and the marks settled, over two talks' draws."""
        marks = (0, 1, 3, 2, 1, 0, 3, 3, 0, 1)
        for plan in (least_plan(2, 2, 2), least_plan(2, 3, 2), as_table(least_plan(3, 2, 2))):
            self.assertIsNone(first_seen(plan))
            library = random_library(random.Random(43), plan)
            for rounds in (1, 2, 3, 5):
                for house in range(plan.house_count):
                    counts = []
                    for wish in range(plan.book_count):
                        seen = {}
                        for draws in itertools.product(range(len(plan.draws)), repeat=2):
                            heard = talk_over(plan, Shelf(library), wish, draws, marks, rounds)[2][house]
                            seen[heard] = seen.get(heard, 0) + 1
                        counts.append(seen)
                    self.assertEqual(counts[0], counts[1])

    def test_plans_of_one_house(self):
        plan = Plan.made(3, 1, 1, 1, [(1, [[((1,),)]])])
        shelf = Shelf(Library(3, ((2,),)))
        self.assertEqual(talk_over(plan, shelf, 0, (0,), (1, 2), 3), ((2,), 0, ((0, 0),)))


if __name__ == "__main__":
    unittest.main()
