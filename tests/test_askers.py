"""Promise [39]: askers."""

import random
import unittest

from tests.asksamples import NO_MESSAGES, plans, unread_plans
from tests.makingsamples import Checks
from tests.plansamples import NO_SEQUENCES
from tests.samples import NO_INTEGERS, nested
from tests.test_houses import answer_by_hand, random_library
from wishunseen.askers import Asker
from wishunseen.editions import Shelf
from wishunseen.houses import House
from wishunseen.leastplan import least_plan
from wishunseen.libraries import Library, every_library
from wishunseen.plans import Plan
from wishunseen.shares import Share
from wishunseen.tables import as_table

LEAST = least_plan(3, 2, 2)
LIBRARY = Library(3, ((1,), (2,)))


def answers_to(plan, asks, library, edition=0):
    return [
        ("answer", talk, house, question, edition, answer_by_hand(plan, house, question, library))
        for _, talk, house, question in asks
    ]


def asks_by_hand(plan, wish, draw, talk):
    return tuple(("ask", talk, house, question) for house, question in enumerate(plan.draws[draw][1][wish]))


class AskerByWords:
    """An asker led by the words; a row of answers is read by trying out all libraries."""

    def __init__(self, plan, wish, draws, libraries):
        self.plan, self.wish, self.draws, self.libraries = plan, wish, list(draws), libraries
        self.found, self.edition, self.talk, self.taken = None, None, 0, {}

    def asks(self):
        if self.talk is None:
            return ()
        asks = asks_by_hand(self.plan, self.wish, self.draws[self.talk], self.talk)
        return tuple(ask for ask in asks if ask[2] not in self.taken)

    def hear(self, message):
        for ask in self.asks():
            if type(message) is tuple and len(message) == 6 and message[:4] == ("answer", *ask[1:]):
                if self.fits(message):
                    self.taken[ask[2]] = message[4:]
        if self.talk is not None and len(self.taken) == self.plan.house_count:
            self.end()

    def fits(self, message):
        if any(type(number) is not int or number < 0 for number in message[1:5]) or type(message[5]) is not tuple:
            return False
        question = self.plan.questions[message[2]][message[3]]
        # A table tells its size; a matrix has a row for each letter.
        size = question[0] if question and type(question[0]) is int else len(question)
        letters = message[5]
        return len(letters) == size and all(type(a) is int and 0 <= a < self.plan.p for a in letters)

    def end(self):
        editions = {edition for edition, _ in self.taken.values()}
        letters = [self.taken[house][1] for house in range(self.plan.house_count)]
        asked = self.plan.draws[self.draws[self.talk]][1][self.wish]
        books = {
            library.books[self.wish] for library in self.libraries
            if [answer_by_hand(self.plan, house, question, library) for house, question in enumerate(asked)] == letters
        }
        self.taken = {}
        if len(editions) == 1 and books:
            (self.found,), (self.edition,), self.talk = books, editions, None
        else:
            self.talk = self.talk + 1 if self.talk + 1 < len(self.draws) else None


class States(Checks):
    def check_state(self, asker, found, edition, talk):
        self.assertEqual((asker.found, asker.edition, asker.talk), (found, edition, talk))


class Making(States):
    def test_at_first(self):
        for plan in plans():
            for wish in range(plan.book_count):
                draws = [len(plan.draws) - 1, 0]
                for asker in (Asker(plan, wish, draws), Asker(draws=tuple(draws), wish=wish, plan=plan)):
                    self.check_state(asker, None, None, 0)
                    asks = asker.asks()
                    self.assertEqual(asks, asks_by_hand(plan, wish, draws[0], 0))
                    self.assertTrue(type(asks) is tuple and all(type(ask) is tuple for ask in asks))
                    self.assertEqual(asker.asks(), asks)

    def test_plans_that_are_not_right(self):
        for plan in unread_plans():
            for arguments in ((0, (0,)), (None, None), (2, ()), (0, None), (True, [0])):
                self.check_undefined("reader", Asker, plan, *arguments)

    def test_wishes_that_are_none(self):
        for plan in (LEAST, as_table(LEAST)):
            for value in NO_INTEGERS + (2, -1, 10 ** 40, nested(10)):
                self.check_number(value, Asker, plan, value, (0,))
                self.check_number(value, Asker, plan, value, value)

    def test_draws_that_are_none(self):
        for plan in (LEAST, as_table(LEAST)):
            for value in NO_SEQUENCES + (
                (), [], {}, (2,), [2], (0, 2), (0, 1, 0, -1), [0, True], (False,), (0, None), ("0",), ((0,),),
                nested(10),
                (0, 1, 10 ** 40), Share(1), LIBRARY, [0, [0]], range(2), {0: 0}, "0",
            ):
                self.check_number(value, Asker, plan, 1, value)

    def test_a_list_that_is_changed_afterwards(self):
        draws = [0, 1]
        asker = Asker(LEAST, 0, draws)
        draws[0] = 1
        draws.pop()
        self.assertEqual(asker.asks(), asks_by_hand(LEAST, 0, 0, 0))
        for message in answers_to(LEAST, asker.asks(), LIBRARY)[:1] + answers_to(LEAST, asker.asks(), LIBRARY, 1)[1:]:
            asker.hear(message)
        self.assertEqual((asker.talk, asker.asks()), (1, asks_by_hand(LEAST, 0, 1, 1)))


class Hearing(States):
    def test_answers_in_each_order(self):
        rng = random.Random(39)
        for plan in plans():
            for wish in range(plan.book_count):
                for draw in range(len(plan.draws)):
                    library = random_library(rng, plan)
                    asker = Asker(plan, wish, (draw,))
                    messages = answers_to(plan, asker.asks(), library, 7)
                    rng.shuffle(messages)
                    left = list(asks_by_hand(plan, wish, draw, 0))
                    for message in messages:
                        self.check_state(asker, None, None, 0)
                        self.assertIsNone(asker.hear(message))
                        left.remove(("ask", *message[1:4]))
                        self.assertEqual(asker.asks(), tuple(left))
                    self.check_state(asker, library.books[wish], 7, None)

    def test_what_is_heard_afterwards_changes_nothing(self):
        asker = Asker(LEAST, 1, (0, 1))
        for message in answers_to(LEAST, asker.asks(), LIBRARY):
            asker.hear(message=message)
        self.check_state(asker, (2,), 0, None)
        for talk in (0, 1):
            asks = asks_by_hand(LEAST, 1, talk, talk)
            for message in answers_to(LEAST, asks, Library(3, ((0,), (0,))), 1):
                self.assertIsNone(asker.hear(message))
                self.check_state(asker, (2,), 0, None)
                self.assertEqual(asker.asks(), ())

    def test_an_answer_is_taken_once(self):
        asker = Asker(LEAST, 0, (1, 0))
        first, second = answers_to(LEAST, asker.asks(), LIBRARY)
        asker.hear(first)
        # The same house again, with another edition and other letters.
        asker.hear(first[:4] + (3, (0,)))
        asker.hear(first)
        self.check_state(asker, None, None, 0)
        asker.hear(second)
        self.check_state(asker, (1,), 0, None)

    def test_answers_that_are_passed_over(self):
        for plan in (LEAST, as_table(LEAST)):
            asker = Asker(plan, 0, (1, 0))
            right = answers_to(plan, asker.asks(), LIBRARY, 2)
            _, talk, house, question, edition, letters = right[0]
            other = 1 - question
            wrong = NO_MESSAGES + (
                list(right[0]), right[0][:5], (*right[0], 0), ("ask", *right[0][1:]), ("Answer", *right[0][1:]),
                (None, *right[0][1:]), ("answer", 1, house, question, edition, letters),
                ("answer", 10 ** 40, house, question, edition, letters),
                ("answer", -1, house, question, edition, letters),
                ("answer", False, house, question, edition, letters),
                ("answer", "0", house, question, edition, letters),
                ("answer", talk, 2, question, edition, letters), ("answer", talk, -1, question, edition, letters),
                ("answer", talk, False, question, edition, letters), ("answer", talk, None, question, edition, letters),
                ("answer", talk, (0,), question, edition, letters), ("answer", talk, house, other, edition, letters),
                ("answer", talk, house, other, edition, ()), ("answer", talk, house, 9, edition, letters),
                ("answer", talk, house, bool(question), edition, letters),
                ("answer", talk, house, -1, edition, letters),
                ("answer", talk, house, question, -1, letters), ("answer", talk, house, question, None, letters),
                ("answer", talk, house, question, True, letters), ("answer", talk, house, question, "2", letters),
                ("answer", talk, house, question, (), letters), ("answer", talk, house, question, edition, ()),
                ("answer", talk, house, question, edition, (0, 0)), ("answer", talk, house, question, edition, (3,)),
                ("answer", talk, house, question, edition, (-1,)), ("answer", talk, house, question, edition, (True,)),
                ("answer", talk, house, question, edition, (None,)),
                ("answer", talk, house, question, edition, list(letters)),
                ("answer", talk, house, question, edition, 0), ("answer", talk, house, question, edition, None),
                ("answer", talk, house, question, edition, "0"), ("answer", talk, house, question, edition, (letters,)),
                ("answer", talk, house, question, edition, ("0",)),
                ("answer", talk, house, question, edition, (10 ** 40,)),
                (right[0],), [right[0]], tuple(right), asker,
            )
            for value in wrong:
                self.assertIsNone(asker.hear(value))
                self.assertEqual(asker.asks(), asks_by_hand(plan, 0, 1, 0))
            for message in right:
                asker.hear(message)
            self.check_state(asker, (1,), 2, None)

    def test_editions_that_are_unlike(self):
        for editions in ((0, 1), (1, 0), (10 ** 40, 0)):
            asker = Asker(LEAST, 0, (1, 1, 0))
            for talk in range(3):
                asks = asker.asks()
                self.assertEqual(asks, asks_by_hand(LEAST, 0, (1, 1, 0)[talk], talk))
                for edition, message in zip(editions, answers_to(LEAST, asks, LIBRARY)):
                    self.check_state(asker, None, None, talk)
                    asker.hear(message[:4] + (edition, message[5]))
            self.check_state(asker, None, None, None)
            self.assertEqual(asker.asks(), ())

    def test_letters_that_no_library_gives(self):
        # Both houses are asked for everything, so that unlike letters are no library's.
        both = ((0, 1), (1, 0))
        plan = Plan.made(2, 1, 2, 2, [(1, [[both, both], [both, both]])])
        for kind in (plan, as_table(plan)):
            asker = Asker(kind, 0, (0, 0))
            asker.hear(("answer", 0, 0, 0, 0, (1, 0)))
            asker.hear(("answer", 0, 1, 0, 0, (1, 1)))
            self.check_state(asker, None, None, 1)
            for house in (1, 0):
                asker.hear(("answer", 1, house, 0, 4, (0, 1)))
            self.check_state(asker, (1,), 4, None)

    def test_late_answers_of_a_talk_that_was_given_up(self):
        asker = Asker(LEAST, 0, (1, 1))
        first, second = answers_to(LEAST, asker.asks(), LIBRARY)
        asker.hear(first[:4] + (1, first[5]))
        asker.hear(second)
        self.check_state(asker, None, None, 1)
        for message in (first, second):
            asker.hear(message)
            self.assertEqual(asker.asks(), asks_by_hand(LEAST, 0, 1, 1))
        for message in answers_to(LEAST, asker.asks(), LIBRARY, 5):
            asker.hear(message)
        self.check_state(asker, (1,), 5, None)

    def test_against_the_words(self):
        """Random messages, right and wrong, against an asker led by the words."""
        rng = random.Random(40)
        ends = set()
        for plan in plans():
            libraries = every_library(plan.p, plan.book_count, plan.book_length)
            for _ in range(6):
                wish = rng.randrange(plan.book_count)
                draws = [rng.randrange(len(plan.draws)) for _ in range(rng.randint(1, 4))]
                asker, told = Asker(plan, wish, draws), AskerByWords(plan, wish, draws, libraries)
                for _ in range(60):
                    message = self.some_message(rng, plan, told, rng.choice(libraries))
                    asker.hear(message)
                    told.hear(message)
                    self.check_state(asker, told.found, told.edition, told.talk)
                    self.assertEqual(asker.asks(), told.asks())
                ends.add((asker.found is None, asker.talk is None))
        self.assertLessEqual({(True, True), (False, True)}, ends)

    def some_message(self, rng, plan, told, library):
        asks = told.asks() or asks_by_hand(plan, 0, 0, 0)
        message = list(answers_to(plan, [rng.choice(asks)], library, rng.choice((0, 0, 0, 1)))[0])
        if rng.random() < 0.3:
            at = rng.randrange(1, 6)
            message[at] = rng.choice((0, 1, 2, None, True, -1, (), (0,), (1, 1), "0"))
        return tuple(message)


class Promise(States):
    def test_the_book_read_is_that_of_its_edition(self):
        """Answers of houses with one shelf, while books are put: lost, doubled and late, but not altered."""
        rng = random.Random(41)
        read = 0
        for plan in plans() * 4:
            shelf = Shelf(random_library(rng, plan))
            houses = [House(number, plan, shelf) for number in range(plan.house_count)]
            wish = rng.randrange(plan.book_count)
            asker = Asker(plan, wish, [rng.randrange(len(plan.draws)) for _ in range(4)])
            messages = []
            for _ in range(60):
                messages += [ask for ask in asker.asks() if rng.random() < 0.5]
                if rng.random() < 0.2:
                    shelf.put(rng.randrange(plan.book_count), [rng.randrange(plan.p) for _ in range(plan.book_length)])
                for message in rng.sample(messages, min(3, len(messages))):
                    if message[0] == "answer":
                        asker.hear(message)
                        continue
                    reply = houses[message[2]].hear(message)
                    self.assertIsNotNone(reply)
                    messages.append(reply)
            if asker.found is not None:
                read += 1
                self.assertEqual(asker.found, shelf.at(asker.edition).books[wish])
        self.assertGreater(read, 10)


if __name__ == "__main__":
    unittest.main()
