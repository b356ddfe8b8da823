"""A desk: lines that change the books and the plan, and can be undone, and lines that ask about them."""

from wishunseen.accounts import spent_by, wastes_of
from wishunseen.errors import InvalidLibrary, InvalidLine, InvalidNumber, NothingToUndo, Undefined, UnknownWord
from wishunseen.hidden import first_seen, guess_chance
from wishunseen.kinds import figures_of, is_between, list_text, number_or_none, numbers_told, power_up_to
from wishunseen.leastplan import MOST_BOOKS, MOST_HOUSES, MOST_LETTERS, least_plan
from wishunseen.libraries import Library
from wishunseen.making import mixed_plans, rehoused_plan, reordered_plan, turned_plan
from wishunseen.right import read_book
from wishunseen.sums import MOST_DRAWS, sums_plan, whole_plan

# How many draws a plan may have on the desk.
MOST_ON_DESK = 600
MOST_FIGURES = 9

# The words that stand ahead of each form, and the arguments behind them.
FORMS = {
    "book": ("number", "list"), "plan least": (), "plan sums": (), "plan whole": ("number",), "make turned": (),
    "make reordered": ("list",), "make rehoused": ("list",), "make mixed": ("number", "number"),
    "ask": ("number", "number"), "spent": ("number",), "seen": ("number",), "wastes": ("list",), "guess": ("list",),
    "undo": (), "redo": (),
}


class Desk:
    """Keeps the books and the plan of so many houses, and what the lines that are done made of them."""

    def __init__(self, library, house_count):
        if not isinstance(library, Library):
            raise InvalidLibrary(library)
        if not is_between(house_count, 1, MOST_HOUSES):
            raise InvalidNumber(house_count)
        self.lines = ()
        self.library = library
        self.plan = whole_plan(library.p, house_count, library.book_count, library.book_length, 0)
        # A shelf takes no edition back, so the desk counts the editions itself.
        self._edition = 0
        self._done = []
        self._undone = []

    def run(self, line):
        """Do one line, and answer its text."""
        name, arguments = form_of(line)
        if name in TELLERS:
            tell = TELLERS[name]
            return tell(self, *arguments)
        if name == "undo":
            self._go_back()
            return ""
        if name == "redo":
            self._go_on()
            return ""
        if name == "book":
            k, book = arguments
            self._change(line, self.plan, self.library.changed(k, book), self._edition + 1)
            return figures_of(self._edition)
        make = MAKERS[name]
        self._change(line, make(self, *arguments), self.library, self._edition)
        return figures_of(len(self.plan.draws))

    def _state(self):
        return (self.lines, self.plan, self.library, self._edition)

    def _take_state(self, state):
        self.lines, self.plan, self.library, self._edition = state

    def _change(self, line, plan, library, edition):
        self._done.append(self._state())
        self._undone = []
        self._take_state(((*self.lines, line), plan, library, edition))

    def _go_back(self):
        if len(self._done) == 0:
            raise NothingToUndo("undo")
        self._undone.append(self._state())
        self._take_state(self._done.pop())

    def _go_on(self):
        if len(self._undone) == 0:
            raise NothingToUndo("redo")
        self._done.append(self._state())
        self._take_state(self._undone.pop())


def replayed_desk(library, house_count, lines):
    """A desk on which these lines were run."""
    desk = Desk(library, house_count)
    for line in lines:
        desk.run(line)
    return desk


def form_of(line):
    """The words by which a line's form is known, and its arguments; UnknownWord or InvalidLine if it has none."""
    words = line.split(" ")
    name = words[0]
    forms = [known for known in FORMS if known.split(" ")[0] == name]
    if len(forms) == 0:
        raise UnknownWord(name)
    if name not in FORMS:
        if len(words) == 1:
            raise InvalidLine(line, len(line))
        name = f"{name} {words[1]}"
        if name not in FORMS:
            raise InvalidLine(line, len(words[0]) + 1)
    return (name, _arguments_of(line, name))


def _arguments_of(line, name):
    """The arguments behind the words of a form; InvalidLine if they are not those of the form."""
    kinds = FORMS[name]
    words = line.split(" ")[len(name.split(" ")):]
    at = len(name) + 1
    told = []
    for number, word in enumerate(words):
        value = _value_told(kinds[number], word) if number < len(kinds) else None
        if value is None:
            raise InvalidLine(line, at)
        told.append(value)
        at = at + len(word) + 1
    if len(told) < len(kinds):
        raise InvalidLine(line, len(line))
    return told


def _value_told(kind, word):
    """The number or list of numbers that a word tells; None if it is none."""
    if kind == "number":
        return number_or_none(word, MOST_FIGURES)
    numbers = numbers_told(word.split(","), MOST_FIGURES)
    return None if None in numbers else numbers


def _least(desk):
    library = desk.library
    houses = desk.plan.house_count
    if houses < 2 or library.book_count > MOST_BOOKS or library.book_length > MOST_LETTERS:
        raise Undefined("plan")
    if library.book_length % (houses - 1) != 0:
        raise Undefined("plan")
    return least_plan(library.p, houses, library.book_count, library.book_length // (houses - 1))


def _sums(desk):
    library = desk.library
    houses = desk.plan.house_count
    if houses < 2 or library.book_length != 1:
        raise Undefined("plan")
    if power_up_to(library.p, library.book_count * (houses - 1), MOST_DRAWS) > MOST_DRAWS:
        raise Undefined("plan")
    return sums_plan(library.p, houses, library.book_count)


def _whole(desk, house):
    library = desk.library
    return whole_plan(library.p, desk.plan.house_count, library.book_count, library.book_length, house)


def _turned(desk):
    _check_draws(len(desk.plan.draws) * desk.plan.house_count)
    return turned_plan(desk.plan)


def _reordered(desk, order):
    return reordered_plan(desk.plan, order)


def _rehoused(desk, order):
    return rehoused_plan(desk.plan, order)


def _mixed(desk, first, second):
    _check_draws(len(desk.plan.draws) * (desk.plan.house_count + 1))
    return mixed_plans(desk.plan, turned_plan(desk.plan), first, second)


def _check_draws(count):
    if count > MOST_ON_DESK:
        raise Undefined("draws")


def _book_read(desk, wish, draw):
    answers = desk.plan.answers(wish, draw, desk.library)
    return list_text(read_book(desk.plan, wish, draw, answers))


def _spent(desk, wish):
    return str(spent_by(desk.plan, wish))


def _seen(desk, together):
    found = first_seen(desk.plan, together)
    if found is None:
        return "hidden"
    lot, row, wish, weight, other = found
    return " ".join([list_text(lot), list_text(row), *[figures_of(number) for number in (wish, weight, other)]])


def _wastes(desk, order):
    vain, beyond, twice = wastes_of(desk.plan, order)
    return " ".join([str(vain), _shares_text(beyond), _shares_text(twice)])


def _shares_text(shares):
    return ",".join([str(share) for share in shares]) if len(shares) > 0 else "-"


def _guessed(desk, lot):
    return str(guess_chance(desk.plan, lot))


# What makes the plan of a line, and what tells the text of one that changes nothing.
MAKERS = {
    "plan least": _least, "plan sums": _sums, "plan whole": _whole, "make turned": _turned,
    "make reordered": _reordered, "make rehoused": _rehoused, "make mixed": _mixed,
}
TELLERS = {"ask": _book_read, "spent": _spent, "seen": _seen, "wastes": _wastes, "guess": _guessed}
