"""Linear plans: what each house is asked, by each draw and for each wish."""

from wishunseen.errors import InvalidLibrary, InvalidNumber, InvalidPlan
from wishunseen.fields import is_field
from wishunseen.kinds import is_below, is_positive, is_rising, is_sequence
from wishunseen.libraries import Library
from wishunseen.matrices import is_matrix, products


class Plan:
    """A plan whose questions are matrices, and whose answers are their products with the letters of a library."""

    def __init__(self, p, book_length, book_count, questions, draws):
        check_sizes(p, book_length, book_count)
        columns = book_length * book_count
        check_places("questions", [_are_questions(p, columns, asked) for asked in members_of(questions)])
        check_draws(book_count, questions, draws)
        self.p = p
        self.book_length = book_length
        self.book_count = book_count
        self.house_count = len(questions)
        self.questions = kept_questions(questions)
        self.draws = kept_draws(draws)
        self.weight = weight_of(draws)

    def __eq__(self, other):
        return isinstance(other, Plan) and parts_of(self) == parts_of(other)

    def asked(self, wish, draw):
        """The numbers of the questions that the houses are asked."""
        check_ask(self, wish, draw)
        return self.draws[draw][1][wish]

    def asked_rows(self, wish, draw):
        """All rows that are asked, house by house."""
        return rows_asked(self, all_houses(self), self.asked(wish, draw))

    def answer_size(self, house, question):
        """How many letters the answer to a question has."""
        check_question(self, house, question)
        return len(self.questions[house][question])

    def answer(self, house, question, library):
        """What a house with this library answers to a question."""
        check_question(self, house, question)
        check_library(self, library)
        return products(self.p, self.questions[house][question], library.letters)

    def answers(self, wish, draw, library):
        """What all houses with this library answer."""
        asked = self.asked(wish, draw)
        check_library(self, library)
        return tuple([self.answer(house, question, library) for house, question in enumerate(asked)])

    @classmethod
    def made(cls, p, book_length, book_count, house_count, draws):
        """The plan of draws in which the questions themselves stand in the place of their numbers."""
        check_sizes(p, book_length, book_count)
        if not is_positive(house_count):
            raise InvalidPlan("houses", 0)
        columns = book_length * book_count
        check_places("draws", [_is_made(draw, book_count, house_count, p, columns) for draw in members_of(draws)])
        questions = [_questions_asked(house, draws) for house in range(house_count)]
        numbers = [{question: at for at, question in enumerate(known)} for known in questions]
        numbered = [(weight, _numbered_asks(numbers, asks)) for weight, asks in draws]
        return cls(p, book_length, book_count, questions, numbered)


def check_sizes(p, book_length, book_count):
    """Raise InvalidPlan for the first that no plan can have."""
    if not is_field(p):
        raise InvalidPlan("field", 0)
    if not is_positive(book_length):
        raise InvalidPlan("length", 0)
    if not is_positive(book_count):
        raise InvalidPlan("count", 0)


def members_of(value):
    """The members of a non-empty sequence; of any other value one that is never a right one."""
    return list(value) if is_sequence(value) and len(value) > 0 else [None]


def check_places(part, rights):
    """Raise InvalidPlan for the first place of this part that is not right."""
    if False in rights:
        raise InvalidPlan(part, rights.index(False))


def check_draws(book_count, questions, draws):
    """Raise InvalidPlan for the first that is no draw of the numbers of these questions."""
    counts = [len(asked) for asked in questions]
    check_places("draws", [is_draw(draw, book_count, counts) for draw in members_of(draws)])


def kept_questions(questions):
    """The questions of all houses, in tuples."""
    return tuple([tuple(asked) for asked in questions])


def kept_draws(draws):
    """The draws, in tuples."""
    return tuple([(weight, tuple([tuple(asked) for asked in asks])) for weight, asks in draws])


def weight_of(draws):
    """The sum of the weights."""
    return sum([weight for weight, _ in draws])


def is_draw(value, book_count, counts):
    """Whether value is a draw of question numbers, where the houses have so many questions."""
    if not _is_framed(value, book_count, len(counts)):
        return False
    return all([is_below(number, count) for asked in value[1] for number, count in zip(asked, counts)])


def check_wish(plan, wish):
    """Raise InvalidNumber(wish) unless it is a book."""
    if not is_below(wish, plan.book_count):
        raise InvalidNumber(wish)


def check_ask(plan, wish, draw):
    """Raise InvalidNumber unless wish is a book and draw the number of a draw."""
    check_wish(plan, wish)
    if not is_below(draw, len(plan.draws)):
        raise InvalidNumber(draw)


def check_question(plan, house, question):
    """Raise InvalidNumber unless house is a house and question the number of one of its questions."""
    if not is_below(house, plan.house_count):
        raise InvalidNumber(house)
    if not is_below(question, len(plan.questions[house])):
        raise InvalidNumber(question)


def check_library(plan, library):
    """Raise InvalidLibrary(library) unless it is one of the plan's sizes."""
    if not isinstance(library, Library) or library.p != plan.p:
        raise InvalidLibrary(library)
    if library.book_count != plan.book_count or library.book_length != plan.book_length:
        raise InvalidLibrary(library)


def parts_of(plan):
    """The parts by which plans of one kind are equal."""
    return (plan.p, plan.book_length, plan.book_count, plan.questions, plan.draws)


def all_houses(plan):
    """The numbers of all houses."""
    return tuple(range(plan.house_count))


def rows_asked(plan, houses, numbers):
    """All rows of the questions with these numbers of these houses, house by house."""
    return tuple([row for house, number in zip(houses, numbers) for row in plan.questions[house][number]])


def draws_asking(plan, questions):
    """The draws of a plan with these questions of each house in the place of their numbers."""
    return [
        (weight, [[known[number] for known, number in zip(questions, asked)] for asked in asks])
        for weight, asks in plan.draws
    ]


def _are_questions(p, columns, value):
    """Whether value is a rising sequence of matrices with so many columns."""
    return is_sequence(value) and all([is_matrix(question, p, columns) for question in value]) and is_rising(value)


def _is_framed(value, book_count, house_count):
    """Whether value is a pair of a weight and, for each wish, a sequence of something for each house."""
    if not is_sequence(value) or len(value) != 2 or not is_positive(value[0]):
        return False
    asks = value[1]
    if not is_sequence(asks) or len(asks) != book_count:
        return False
    return all([is_sequence(asked) and len(asked) == house_count for asked in asks])


def _is_made(value, book_count, house_count, p, columns):
    """Whether value is a draw in which questions stand in the place of their numbers."""
    if not _is_framed(value, book_count, house_count):
        return False
    return all([is_matrix(question, p, columns) for asked in value[1] for question in asked])


def _questions_asked(house, draws):
    """The questions that a house is asked by some draw and wish, rising."""
    return sorted(set([asked[house] for _, asks in draws for asked in asks]))


def _numbered_asks(numbers, asks):
    """The asks with the number of each question in its place, where numbers tells them for each house."""
    return [[known[question] for known, question in zip(numbers, asked)] for asked in asks]
