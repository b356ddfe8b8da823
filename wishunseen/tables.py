"""Plans of tables: plans whose questions tell the answer that each library gives."""

from wishunseen.kinds import is_number, is_rising, is_sequence, number_of_digits, power_up_to
from wishunseen.libraries import every_library
from wishunseen.matrices import is_matrix
from wishunseen.plans import (
    check_ask, check_draws, check_library, check_places, check_question, check_sizes, kept_draws, kept_questions,
    members_of, parts_of, weight_of,
)

# As many as every_library is asked for: no plan of tables has more libraries.
MOST_LIBRARIES = 4096


class TablePlan:
    """A plan whose questions are pairs of the answers' size and their table, library by library."""

    def __init__(self, p, book_length, book_count, questions, draws):
        check_sizes(p, book_length, book_count)
        libraries = power_up_to(p, book_length * book_count, MOST_LIBRARIES)
        check_places("questions", [_are_questions(p, libraries, asked) for asked in members_of(questions)])
        check_draws(book_count, questions, draws)
        self.p = p
        self.book_length = book_length
        self.book_count = book_count
        self.house_count = len(questions)
        self.questions = kept_questions(questions)
        self.draws = kept_draws(draws)
        self.weight = weight_of(draws)

    def __eq__(self, other):
        return isinstance(other, TablePlan) and parts_of(self) == parts_of(other)

    def asked(self, wish, draw):
        """The numbers of the questions that the houses are asked."""
        check_ask(self, wish, draw)
        return self.draws[draw][1][wish]

    def answer_size(self, house, question):
        """How many letters the answer to a question has."""
        check_question(self, house, question)
        return self.questions[house][question][0]

    def answer(self, house, question, library):
        """What a house with this library answers to a question."""
        check_question(self, house, question)
        check_library(self, library)
        # The libraries ascend by their letters, so these letters are the digits of the place in the table.
        return self.questions[house][question][1][number_of_digits(self.p, library.letters)]

    def answers(self, wish, draw, library):
        """What all houses with this library answer."""
        asked = self.asked(wish, draw)
        check_library(self, library)
        return tuple([self.answer(house, question, library) for house, question in enumerate(asked)])


def as_table(plan):
    """The plan of tables with the same draws and answers as a linear plan of few libraries."""
    libraries = every_library(plan.p, plan.book_count, plan.book_length)
    tabled = [_tabled_questions(plan, house, libraries) for house in range(plan.house_count)]
    questions = [sorted(tables) for tables in tabled]
    numbers = [[known.index(table) for table in tables] for known, tables in zip(questions, tabled)]
    draws = [(weight, [_renumbered(numbers, asked) for asked in asks]) for weight, asks in plan.draws]
    return TablePlan(plan.p, plan.book_length, plan.book_count, questions, draws)


def _are_questions(p, libraries, value):
    """Whether value is a rising sequence of tables for so many libraries."""
    return is_sequence(value) and all([_is_question(p, libraries, question) for question in value]) and is_rising(value)


def _is_question(p, libraries, value):
    """Whether value is a pair of a size and a table of so many answers of this size."""
    if not isinstance(value, tuple) or len(value) != 2 or not is_number(value[0]):
        return False
    return is_matrix(value[1], p, value[0]) and len(value[1]) == libraries


def _tabled_questions(plan, house, libraries):
    """For each question of a house the pair of its answers' size and its answers."""
    return [
        (len(question), tuple([plan.answer(house, number, library) for library in libraries]))
        for number, question in enumerate(plan.questions[house])
    ]


def _renumbered(numbers, asked):
    """The questions asked, by the numbers that stand for theirs at each house."""
    return tuple([known[question] for known, question in zip(numbers, asked)])
