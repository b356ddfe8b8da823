"""Texts of plans: a linear plan written in lines, and read again."""

from wishunseen.errors import InvalidText
from wishunseen.fields import is_field
from wishunseen.kinds import figures_of, is_positive, is_rising, list_text, number_or_none, numbers_told
from wishunseen.matrices import is_matrix
from wishunseen.plans import Plan, is_draw

MOST_FIGURES = 200


def write_plan(plan):
    """The text of a plan."""
    sizes = (plan.p, plan.book_length, plan.book_count, plan.house_count)
    lines = [" ".join(["plan", *[figures_of(size) for size in sizes]])]
    for house, asked in enumerate(plan.questions):
        lines.append(f"house {house}")
        lines.extend([f"ask {_question_text(question)}" for question in asked])
    for weight, asks in plan.draws:
        lines.append(" ".join(["draw", figures_of(weight), *[list_text(asked) for asked in asks]]))
    return "\n".join(lines)


def read_plan(text):
    """The plan whose text this is."""
    lines = text.split("\n")
    reading = Reading(lines[0])
    if not reading.is_begun:
        raise InvalidText(text, 0)
    at = len(lines[0]) + 1
    for line in lines[1:]:
        if not reading.take(line):
            raise InvalidText(text, at)
        at = at + len(line) + 1
    # A draw stands behind all else, so where there is one no line is lacking.
    if len(reading.told_draws) == 0:
        raise InvalidText(text, len(text))
    p, book_length, book_count, _ = reading.sizes
    return Plan(p, book_length, book_count, reading.told_questions, reading.told_draws)


class Reading:
    """What of a plan's text was read so far, line by line."""

    def __init__(self, line):
        words = line.split(" ")
        self.sizes = numbers_told(words[1:], MOST_FIGURES)
        self.is_begun = words[0] == "plan" and _are_sizes(self.sizes)
        self.told_questions = []
        self.told_draws = []

    def take(self, line):
        """Whether a line may stand behind those that were read; if so, it is read."""
        word, _, rest = line.partition(" ")
        if word == "house":
            return self._take_house(rest)
        if word == "ask":
            return self._take_ask(rest)
        return word == "draw" and self._take_draw(rest)

    def _take_house(self, rest):
        house = len(self.told_questions)
        if house == self.sizes[3] or self._lacks_asks() or rest != str(house):
            return False
        self.told_questions.append([])
        return True

    def _take_ask(self, rest):
        if len(self.told_questions) == 0 or len(self.told_draws) > 0:
            return False
        p, book_length, book_count, _ = self.sizes
        question = _question_told(rest)
        asked = self.told_questions[-1]
        if not is_matrix(question, p, book_length * book_count) or not is_rising([*asked[-1:], question]):
            return False
        asked.append(question)
        return True

    def _take_draw(self, rest):
        if len(self.told_questions) < self.sizes[3] or self._lacks_asks():
            return False
        words = rest.split(" ")
        weight = number_or_none(words[0], MOST_FIGURES)
        draw = (weight, [numbers_told(word.split(","), MOST_FIGURES) for word in words[1:]])
        if not is_draw(draw, self.sizes[2], [len(asked) for asked in self.told_questions]):
            return False
        self.told_draws.append(draw)
        return True

    def _lacks_asks(self):
        """Whether the last house that was told has no question yet."""
        return len(self.told_questions) > 0 and len(self.told_questions[-1]) == 0


def _are_sizes(numbers):
    """Whether numbers are those of the first line: P, LENGTH, COUNT and HOUSES."""
    return len(numbers) == 4 and is_field(numbers[0]) and all([is_positive(number) for number in numbers])


def _question_told(text):
    """The rows of a question that a text tells, with None in the place of what is no number."""
    if text == "-":
        return ()
    return tuple([numbers_told(row.split(","), MOST_FIGURES) for row in text.split(";")])


def _question_text(question):
    return ";".join([list_text(row) for row in question]) if len(question) > 0 else "-"
