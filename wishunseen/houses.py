"""Houses: they answer asks out of what is on the shelf."""

from wishunseen.errors import InvalidNumber
from wishunseen.kinds import is_below, is_number


class House:
    """A house that answers each talk once, by its plan and the last edition of the shelf."""

    def __init__(self, number, plan, shelf):
        if not is_below(number, plan.house_count):
            raise InvalidNumber(number)
        self.heard = ()
        self._number = number
        self._plan = plan
        self._shelf = shelf
        self._told = {}

    def hear(self, message):
        """The answer to an ask; None if there is none to this message."""
        if not is_ask(message):
            return None
        _, talk, house, question = message
        if house != self._number or question >= len(self._plan.questions[house]):
            return None
        if talk not in self._told:
            self._told[talk] = self._answer_to(talk, question)
        # Another question of the same talk would show two rows of one draw.
        if self._told[talk][3] != question:
            return None
        self.heard = (*self.heard, question)
        return self._told[talk]

    def _answer_to(self, talk, question):
        letters = self._plan.answer(self._number, question, self._shelf.at())
        return ("answer", talk, self._number, question, self._shelf.edition, letters)


def is_ask(value):
    """Whether value is an ask."""
    if not isinstance(value, tuple) or len(value) != 4 or value[0] != "ask":
        return False
    return all([is_number(number) for number in value[1:]])
