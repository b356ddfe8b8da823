"""Askers: they ask the houses, talk by talk, until the wished book is read."""

from wishunseen.errors import InvalidAnswers, InvalidNumber, Undefined
from wishunseen.kinds import are_letters, is_below, is_number, is_sequence
from wishunseen.plans import check_wish
from wishunseen.right import first_unread, read_book


class Asker:
    """One who wishes a book; talk number i goes by the draw draws[i]."""

    def __init__(self, plan, wish, draws):
        if first_unread(plan) is not None:
            raise Undefined("reader")
        check_wish(plan, wish)
        if not _are_draws(draws, len(plan.draws)):
            raise InvalidNumber(draws)
        self.found = None
        self.edition = None
        self.talk = 0
        self._plan = plan
        self._wish = wish
        self._draws = tuple(draws)
        self._taken = {}

    def asks(self):
        """The asks of the open talk to the houses of which no answer was taken yet."""
        if self.talk is None:
            return ()
        return tuple([
            ("ask", self.talk, house, question)
            for house, question in enumerate(self._asked()) if house not in self._taken
        ])

    def hear(self, message):
        """Take the message if it is an answer that is waited for."""
        if not is_answer(message) or not self._is_waited_for(message):
            return
        _, _, house, _, edition, letters = message
        self._taken[house] = (edition, letters)
        if len(self._taken) == self._plan.house_count:
            self._end_talk()

    def _asked(self):
        return self._plan.asked(self._wish, self._draws[self.talk])

    def _is_waited_for(self, answer):
        """Whether the answer is one of the open talk that was not taken yet, and of the right form."""
        _, talk, house, question, _, letters = answer
        if talk != self.talk or house >= self._plan.house_count or house in self._taken:
            return False
        if question != self._asked()[house]:
            return False
        return are_letters(self._plan.p, self._plan.answer_size(house, question), letters)

    def _end_talk(self):
        taken = [self._taken[house] for house in range(self._plan.house_count)]
        edition, _ = taken[0]
        book = None
        if all([other == edition for other, _ in taken]):
            book = self._book_told([letters for _, letters in taken])
        if book is None:
            self._open_next()
        else:
            self.found = book
            self.edition = edition
            self.talk = None

    def _book_told(self, answers):
        """The book that is read out of all answers; None if no library gives these."""
        try:
            return read_book(self._plan, self._wish, self._draws[self.talk], answers)
        except InvalidAnswers:
            return None

    def _open_next(self):
        self._taken = {}
        self.talk = self.talk + 1 if self.talk + 1 < len(self._draws) else None


def is_answer(value):
    """Whether value is an answer, whatever its letters are."""
    if not isinstance(value, tuple) or len(value) != 6 or value[0] != "answer":
        return False
    return all([is_number(number) for number in value[1:5]]) and isinstance(value[5], tuple)


def _are_draws(value, count):
    """Whether value is a non-empty sequence of the numbers of so many draws."""
    return is_sequence(value) and len(value) > 0 and all([is_below(draw, count) for draw in value])
