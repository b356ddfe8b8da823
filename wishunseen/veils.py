"""Veiled plans: the houses share letters by which the asker learns nothing but the wished book."""

from wishunseen.errors import InvalidNumber, InvalidPlan, InvalidTape, Undefined
from wishunseen.hidden import check_together
from wishunseen.kinds import are_letters, is_between, is_positive, is_sequence
from wishunseen.leastplan import least_plan
from wishunseen.libraries import Library
from wishunseen.matrices import in_span, is_matrix, products, sum_to, turned_rows, unit_matrix
from wishunseen.plans import Plan, check_places, draws_asking
from wishunseen.right import columns_of_book, houses_left, pair_by_rows
from wishunseen.shares import Share

MOST_COMMON = 3


class VeiledPlan:
    """A linear plan, and for each question a mask: what of the common letters is added to its answer."""

    def __init__(self, plan, common, masks):
        if not is_between(common, 1, MOST_COMMON):
            raise InvalidPlan("common", 0)
        check_places("masks", _rights_of_masks(plan, common, masks))
        self.plan = plan
        self.common = common
        self.masks = tuple([tuple(known) for known in masks])

    def answer(self, house, question, library, tape):
        """What a house with this library and this tape of common letters answers to a question."""
        plain = self.plan.answer(house, question, library)
        if not are_letters(self.plan.p, self.common, tape):
            raise InvalidTape(tape)
        veil = products(self.plan.p, self.masks[house][question], tape)
        return tuple([(letter + other) % self.plan.p for letter, other in zip(plain, veil)])


def first_unread_veiled(veiled):
    """None if all wishes are read whatever the tape; otherwise the first wish and draw, with two pairs."""
    for wish, draw in _new_asks(veiled.plan):
        pair = _pair_unlike(veiled, wish, draw)
        if pair is not None:
            one, other = pair
            return (wish, draw, _library_and_tape(veiled, one), _library_and_tape(veiled, other))
    return None


def first_unveiled(veiled):
    """None if nothing but the wished book is told; otherwise the first wish and draw, with two libraries."""
    plan = veiled.plan
    for wish, draw in _new_asks(plan):
        column = _column_told(veiled, wish, draw)
        if column is not None:
            size = plan.book_length * plan.book_count
            return (wish, draw, _library(plan, (0,) * size), _library(plan, unit_matrix(size)[column]))
    return None


def veiled_reader(veiled, wish, draw):
    """Some matrix that gives the letters of the wished book out of those of all veiled answers."""
    if _pair_unlike(veiled, wish, draw) is not None:
        raise Undefined("reader")
    plan = veiled.plan
    rows = _rows_with_masks(veiled, wish, draw)
    units = unit_matrix(_size_with_tape(veiled))
    return tuple([sum_to(plan.p, rows, units[column]) for column in columns_of_book(plan, wish)])


def least_veiled(house_count, book_length, together=1, silent=0, lying=0):
    """The least that a veiled plan spends that is hidden from so many houses together, and sturdy."""
    for number in (house_count, book_length):
        if not is_positive(number):
            raise InvalidNumber(number)
    left = houses_left(house_count, silent, lying)
    check_together(together, left - 1)
    return Share(book_length * house_count, left - together)


def veiled_least_plan(p, house_count, book_count):
    """The least plan, veiled by one common letter, with a row of noughts where nothing was asked."""
    least = least_plan(p, house_count, book_count)
    noughts = ((0,) * (least.book_length * book_count),)
    questions = [[noughts if question == () else question for question in known] for known in least.questions]
    plan = Plan.made(p, least.book_length, book_count, house_count, draws_asking(least, questions))
    return VeiledPlan(plan, 1, [[((1,),)] * len(known) for known in plan.questions])


def _rights_of_masks(plan, common, masks):
    """For each house whether its masks are right."""
    if not is_sequence(masks) or len(masks) != plan.house_count:
        return [False]
    return [_are_masks(plan.p, common, known, own) for known, own in zip(plan.questions, masks)]


def _are_masks(p, common, questions, value):
    """Whether value has, for each of the questions in order, a mask with as many rows, and nothing else."""
    if not is_sequence(value) or len(value) != len(questions):
        return False
    return all([
        is_matrix(mask, p, common) and len(mask) == len(question) for mask, question in zip(value, questions)
    ])


def _new_asks(plan):
    """The wishes and draws, ascending, but those by which the same is asked as by one ahead with the same wish."""
    found = {}
    for wish in range(plan.book_count):
        for draw, (_, asks) in enumerate(plan.draws):
            found.setdefault((wish, asks[wish]), (wish, draw))
    return list(found.values())


def _masks_asked(veiled, wish, draw):
    """The rows of the masks of all questions that are asked, house by house."""
    asked = veiled.plan.asked(wish, draw)
    return tuple([row for masks, number in zip(veiled.masks, asked) for row in masks[number]])


def _rows_with_masks(veiled, wish, draw):
    """The rows that are asked, each with what of the tape is added to its letter behind it."""
    rows = veiled.plan.asked_rows(wish, draw)
    return tuple([row + mask for row, mask in zip(rows, _masks_asked(veiled, wish, draw))])


def _size_with_tape(veiled):
    return veiled.plan.book_length * veiled.plan.book_count + veiled.common


def _pair_unlike(veiled, wish, draw):
    """The letters of two libraries and tapes with alike answers but unlike books wish; None if there are none."""
    rows = _rows_with_masks(veiled, wish, draw)
    return pair_by_rows(veiled.plan.p, rows, _size_with_tape(veiled), columns_of_book(veiled.plan, wish))


def _column_told(veiled, wish, draw):
    """The first column of another book that the tape does not veil; None if there is none."""
    plan = veiled.plan
    size = plan.book_length * plan.book_count
    columns = turned_rows(plan.asked_rows(wish, draw), size)
    # A change of the library is veiled just if some change of the tape changes the answers alike.
    veils = turned_rows(_masks_asked(veiled, wish, draw), veiled.common)
    wished = columns_of_book(plan, wish)
    told = [at for at in range(size) if at not in wished and not in_span(plan.p, veils, columns[at])]
    return told[0] if len(told) > 0 else None


def _library(plan, letters):
    return Library.of_letters(plan.p, plan.book_length, letters)


def _library_and_tape(veiled, letters):
    """The library and the tape of these letters, those of the tape behind the others."""
    size = veiled.plan.book_length * veiled.plan.book_count
    return (_library(veiled.plan, letters[:size]), letters[size:])
