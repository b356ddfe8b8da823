"""Promises [17] and [18]: plans that are right, and reading books out of answers."""

import itertools
import random
import unittest

from tests.plansamples import (
    NO_NUMBERS, answers_by_hand, copies_sample, groups_of_answers, judged_plans, least_sample, linear_answer,
    product_table, right_plans, right_tables, sums_sample,
)
from tests.samples import ANY_VALUES, nested
from tests.test_plans import is_question
from wishunseen.errors import InvalidAnswers, InvalidNumber, Undefined
from wishunseen.libraries import Library, every_library
from wishunseen.plans import Plan
from wishunseen.right import first_unread, read_book, reader_of
from wishunseen.tables import TablePlan, as_table

JUDGED = judged_plans()
# Two houses; both wishes are read by draw 0, and none by draw 1.
PART = Plan.made(3, 1, 2, 2, ((1, ((((1, 0),), ()), ((), ((0, 2),)))), (1, ((((1, 1),), ()), ((), ((1, 2),))))))


def is_read(plan, wish, draw):
    """Whether all libraries with alike answers have the same book wish, by trying all."""
    return all(len(books) == 1 for books in groups_of_answers(plan, wish, draw).values())


def first_by_hand(plan):
    for wish in range(plan.book_count):
        for draw in range(len(plan.draws)):
            if not is_read(plan, wish, draw):
                return (wish, draw)
    return None


def asks_of(plan):
    return list(itertools.product(range(plan.book_count), range(len(plan.draws))))


class Right(unittest.TestCase):
    def check(self, plan):
        """Whether the plan is right, as told and as tried out."""
        told, first = first_unread(plan), first_by_hand(plan)
        self.assertEqual(first_unread(plan=plan), told)
        if first is None:
            self.assertIsNone(told)
            return True
        self.assertIs(type(told), tuple)
        wish, draw, one, other = told
        self.assertEqual((wish, draw), first)
        self.check_pair(plan, wish, plan.draws[draw][1][wish], one, other)
        return False

    def check_pair(self, plan, wish, asked, one, other):
        for library in (one, other):
            self.assertIs(type(library), Library)
            sizes = (library.p, library.book_count, library.book_length)
            self.assertEqual(sizes, (plan.p, plan.book_count, plan.book_length))
        self.assertEqual(answers_by_hand(plan, asked, one), answers_by_hand(plan, asked, other))
        self.assertNotEqual(one.books[wish], other.books[wish])

    def test_right_plans(self):
        for plan in right_plans() + right_tables():
            self.assertIsNone(first_unread(plan))
            self.assertTrue(self.check(plan))

    def test_plans_right_and_not(self):
        for kind in (Plan, TablePlan):
            told = [self.check(plan) for plan in JUDGED if isinstance(plan, kind)]
            self.assertGreater(told.count(True), 20)
            self.assertGreater(told.count(False), 50)

    def test_the_first_wish_and_draw(self):
        self.assertEqual(first_unread(PART)[:2], (0, 1))
        self.assertEqual(first_unread(as_table(PART))[:2], (0, 1))
        draws = (PART.draws[0], (1, (PART.asked(0, 0), PART.asked(1, 1))))
        second = Plan(3, 1, 2, PART.questions, draws)
        self.assertEqual(first_unread(second)[:2], (1, 1))
        self.assertEqual(first_unread(as_table(second))[:2], (1, 1))

    def test_no_rows_at_all(self):
        plan = Plan.made(2, 2, 1, 2, ((1, (((), ()),)),))
        wish, draw, one, other = first_unread(plan)
        self.assertEqual((wish, draw), (0, 0))
        self.assertNotEqual(one, other)

    def test_larger_plans(self):
        rows = tuple(tuple(int(k == at) for k in range(24)) for at in range(24))
        everything = Plan.made(31, 6, 4, 3, [(1, [(rows[:8], rows[8:16], rows[16:])] * 4)])
        self.assertIsNone(first_unread(everything))
        lacking = Plan.made(31, 6, 4, 3, [(1, [(rows[:8], rows[8:15], rows[16:])] * 4)])
        wish, draw, one, other = first_unread(lacking)
        self.assertEqual((wish, draw), (2, 0))
        self.check_pair(lacking, 2, lacking.draws[0][1][2], one, other)


class Readers(unittest.TestCase):
    def test_readers_give_the_book_of_every_library(self):
        read, lacking = 0, 0
        for plan in JUDGED:
            if isinstance(plan, TablePlan):
                continue
            for wish, draw in asks_of(plan):
                if is_read(plan, wish, draw):
                    self.check_reader(plan, wish, draw)
                    read += 1
                else:
                    self.check_none(plan, wish, draw)
                    lacking += 1
        self.assertGreater(min(read, lacking), 100)

    def check_reader(self, plan, wish, draw):
        reader = reader_of(plan, wish, draw)
        self.assertEqual(reader_of(draw=draw, wish=wish, plan=plan), reader)
        columns = sum(plan.answer_size(house, number) for house, number in enumerate(plan.asked(wish, draw)))
        self.assertTrue(is_question(plan.p, columns, reader))
        self.assertEqual(len(reader), plan.book_length)
        for library in every_library(plan.p, plan.book_count, plan.book_length):
            letters = [letter for answer in plan.answers(wish, draw, library) for letter in answer]
            self.assertEqual(linear_answer(plan.p, reader, letters), library.books[wish])

    def check_none(self, plan, wish, draw):
        for call in (reader_of, lambda *asked: read_book(*asked, None)):
            with self.assertRaises(Undefined) as caught:
                call(plan, wish, draw)
            self.assertEqual(caught.exception.what, "reader")

    def test_rows_that_hang_on_each_other(self):
        rows = ((1, 2), (2, 4), (0, 0), (3, 3))
        plan = Plan.made(5, 1, 2, 2, [(1, [(rows, rows), (rows, ())])])
        for wish in (0, 1):
            self.check_reader(plan, wish, 0)


class Reading(unittest.TestCase):
    def check_wrong(self, plan, wish, draw, answers):
        with self.assertRaises(InvalidAnswers, msg=(plan.draws, wish, draw, answers)) as caught:
            read_book(plan, wish, draw, answers)
        self.assertIs(caught.exception.value, answers)

    def check_answers(self, plan, wish, draw, groups, answers):
        """Read if they are the answers of some library; whether they are."""
        if answers in groups:
            self.assertEqual((read_book(plan, wish, draw, answers),), tuple(groups[answers]))
            return True
        self.check_wrong(plan, wish, draw, answers)
        self.check_wrong(plan, wish, draw, [list(answer) for answer in answers])
        return False

    def test_the_answers_of_every_library(self):
        for plan in JUDGED:
            for wish, draw in asks_of(plan):
                if not is_read(plan, wish, draw):
                    continue
                for library in every_library(plan.p, plan.book_count, plan.book_length):
                    answers = answers_by_hand(plan, plan.draws[draw][1][wish], library)
                    told = read_book(plan, wish, draw, answers)
                    self.assertEqual(told, library.books[wish])
                    self.assertIs(type(told), tuple)
                    as_lists = [list(answer) for answer in answers]
                    self.assertEqual(read_book(answers=as_lists, draw=draw, wish=wish, plan=plan), told)

    def test_one_letter_changed(self):
        told = []
        for plan in JUDGED:
            for wish, draw in asks_of(plan)[:6]:
                if is_read(plan, wish, draw):
                    groups = groups_of_answers(plan, wish, draw)
                    for answers in neighbours(plan.p, groups):
                        told.append(self.check_answers(plan, wish, draw, groups, answers))
        self.assertGreater(min(told.count(True), told.count(False)), 300)

    def test_answers_of_another_form(self):
        rng = random.Random(19)
        for plan in (sums_sample(3, 2, 2), least_sample(2, 3, 2), as_table(copies_sample(2, 3, 2, 1)), product_table()):
            for wish, draw in asks_of(plan):
                groups = groups_of_answers(plan, wish, draw)
                answers = rng.choice(sorted(groups))
                cut = ([], (), list(answers)[1:], (*answers, ()), answers[:-1])
                for value in ANY_VALUES + cut + (nested(10), {}, "01"):
                    self.check_wrong(plan, wish, draw, value)
                for house, answer in enumerate(answers):
                    others = [answer + (0,), None, 0, "0", {}, True, (answer,), nested(10)] + [
                        answer[:at] + (letter,) + answer[at + 1:] for at in range(len(answer))
                        for letter in (plan.p, -1, True, None, "1", (0,), 10 ** 40)
                    ]
                    others += [answer[1:], ()] if answer else []
                    for other in others:
                        self.check_wrong(plan, wish, draw, answers[:house] + (other,) + answers[house + 1:])
                        self.check_wrong(plan, wish, draw, [*answers[:house], other, *answers[house + 1:]])

    def test_answers_that_contradict(self):
        plan = copies_sample(3, 2, 2, 1)
        for one, other in itertools.product(range(3), repeat=2):
            answers = ((one,), (other,))
            for each in (plan, as_table(plan)):
                if one == other:
                    self.assertEqual(read_book(each, 1, 0, answers), (one,))
                else:
                    self.check_wrong(each, 1, 0, answers)

    def test_errors_in_their_order(self):
        for plan in (PART, as_table(PART)):
            self.assertEqual([is_read(plan, *asked) for asked in asks_of(plan)], [True, False, True, False])
            calls = [lambda *asked: read_book(*asked, None)] + [reader_of] * isinstance(plan, Plan)
            for call in calls:
                for value in NO_NUMBERS + (2, 10 ** 40, nested(10)):
                    for arguments in ((value, value), (value, 0), (0, value), (1, value)):
                        with self.assertRaises(InvalidNumber) as caught:
                            call(plan, *arguments)
                        self.assertIs(caught.exception.value, value)
                for wish in (0, 1):
                    with self.assertRaises(Undefined) as caught:
                        call(plan, wish, 1)
                    self.assertEqual(caught.exception.what, "reader")
            self.check_wrong(plan, 0, 0, None)
            self.check_wrong(plan, 1, 0, ((0,), (0,)))
            self.assertEqual(read_book(plan, 1, 0, ((), (1,))), (2,))


def neighbours(p, groups):
    """All that differs in one letter from some of these answers."""
    found = set()
    for answers in sorted(groups)[:8]:
        for house, answer in enumerate(answers):
            for at in range(len(answer)):
                for letter in range(p):
                    other = answer[:at] + (letter,) + answer[at + 1:]
                    found.add(answers[:house] + (other,) + answers[house + 1:])
    return sorted(found)


if __name__ == "__main__":
    unittest.main()
