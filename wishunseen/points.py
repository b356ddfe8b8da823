"""Plans by points: hidden from houses together, and read though houses are silent or lie."""

from wishunseen.accounts import least_mean
from wishunseen.decoding import places_unlike, polynomial_near, value_at
from wishunseen.errors import InvalidAnswers, InvalidNumber, InvalidPlan, InvalidTape, Undefined
from wishunseen.fields import is_field
from wishunseen.kinds import (
    are_letters, is_below, is_number, is_positive, is_sequence, power_up_to, rows_below,
)
from wishunseen.matrices import products
from wishunseen.plans import Plan, check_library, check_wish

MOST_TAPES = 256


class PointPlan:
    """A plan in which each house answers the value, at its own point, of one polynomial."""

    def __init__(self, p, house_count, book_count, together, silent, lying):
        if not _are_sizes(p, house_count, book_count, together, silent, lying):
            raise InvalidPlan("points", 0)
        self.p = p
        self.house_count = house_count
        self.book_count = book_count
        self.together = together
        self.silent = silent
        self.lying = lying
        self.book_length = house_count - silent - 2 * lying - together
        self.tape_length = book_count * self.book_length * together

    def asks(self, wish, tape):
        """The row that each house is asked."""
        check_wish(self, wish)
        if not are_letters(self.p, self.tape_length, tape):
            raise InvalidTape(tape)
        polynomials = [
            self._polynomial(wish, tape, book, letter)
            for book in range(self.book_count) for letter in range(self.book_length)
        ]
        return tuple([
            tuple([value_at(self.p, polynomial, _point_of(house)) for polynomial in polynomials])
            for house in range(self.house_count)
        ])

    def answer(self, ask, library):
        """The letter that a house with this library answers."""
        if not are_letters(self.p, self.book_count * self.book_length, ask):
            raise InvalidAnswers(ask)
        check_library(self, library)
        return products(self.p, (tuple(ask),), library.letters)[0]

    def read(self, answers):
        """The wished book and the houses that told a wrong letter; a silent house answers None."""
        if not self._are_answers(answers):
            raise InvalidAnswers(answers)
        heard = [house for house, letter in enumerate(answers) if letter is not None]
        if self.house_count - len(heard) > self.silent:
            raise Undefined("book")
        points = [_point_of(house) for house in heard]
        letters = [answers[house] for house in heard]
        try:
            found = polynomial_near(self.p, points, letters, self.together + self.book_length, self.lying)
        except Undefined:
            raise Undefined("book") from None
        unlike = places_unlike(self.p, points, letters, found)
        return (found[self.together:], tuple([heard[at] for at in unlike]))

    def excess(self):
        """What is spent above the least."""
        least = least_mean(
            self.house_count, self.book_count, self.book_length, self.together, self.silent, self.lying,
        )
        return self.house_count - least

    def as_plan(self):
        """The linear plan with a draw for each tape."""
        if power_up_to(self.p, self.tape_length, MOST_TAPES) > MOST_TAPES:
            raise Undefined("plan")
        draws = [
            (1, [[(row,) for row in self.asks(wish, tape)] for wish in range(self.book_count)])
            for tape in rows_below(self.p, self.tape_length)
        ]
        return Plan.made(self.p, self.book_length, self.book_count, self.house_count, draws)

    def veiled_answer(self, house, ask, library, common):
        """What a house answers, veiled by the common letters so that only the wished book is told."""
        if not is_below(house, self.house_count):
            raise InvalidNumber(house)
        letter = self.answer(ask, library)
        if not are_letters(self.p, self.together, common):
            raise InvalidTape(common)
        return (letter + value_at(self.p, common, _point_of(house))) % self.p

    def _polynomial(self, wish, tape, book, letter):
        """The polynomial whose values the houses are asked for a letter of a book."""
        at = (book * self.book_length + letter) * self.together
        drawn = tuple(tape[at:at + self.together])
        return drawn + (0,) * letter + (1,) if book == wish else drawn

    def _are_answers(self, value):
        if not is_sequence(value) or len(value) != self.house_count:
            return False
        return all([letter is None or is_below(letter, self.p) for letter in value])


def _point_of(house):
    return house + 1


def _are_sizes(p, house_count, book_count, together, silent, lying):
    """Whether there is a plan by points of these sizes."""
    if not is_field(p) or not all([is_positive(number) for number in (house_count, book_count, together)]):
        return False
    if not is_number(silent) or not is_number(lying) or house_count >= p:
        return False
    return house_count - silent - 2 * lying - together >= 1
