"""The errors of the package; each keeps what it was given, itself."""


class WishError(ValueError):
    """What all errors of the package are; it is never raised itself."""


class InvalidNumber(WishError):
    """A value is not such a number as is asked for."""

    def __init__(self, value):
        self.value = value


class InvalidShare(WishError):
    """A pair (top, bottom) makes no share."""

    def __init__(self, value):
        self.value = value


class InvalidMatrix(WishError):
    """A value is not such a matrix as is asked for."""

    def __init__(self, value):
        self.value = value


class InvalidLibrary(WishError):
    """A value is no library, are no books of one, or is no such book."""

    def __init__(self, value):
        self.value = value


class InvalidPlan(WishError):
    """A part of a plan is wrong at a place."""

    def __init__(self, part, place):
        self.part = part
        self.place = place


class InvalidTape(WishError):
    """A value is no tape of so many letters."""

    def __init__(self, value):
        self.value = value


class InvalidAnswers(WishError):
    """A value is no row of answers, or no ask."""

    def __init__(self, value):
        self.value = value


class InvalidText(WishError):
    """A text is wrong at a place."""

    def __init__(self, text, at):
        self.text = text
        self.at = at


class InvalidLine(WishError):
    """A line is wrong at a place."""

    def __init__(self, line, at):
        self.line = line
        self.at = at


class UnknownWord(WishError):
    """A line begins with a word that is none of a desk's."""

    def __init__(self, word):
        self.word = word


class Undefined(WishError):
    """What is asked for is not there for these arguments."""

    def __init__(self, what):
        self.what = what


class NothingToUndo(WishError):
    """There is nothing that could be undone, or done again."""

    def __init__(self, word):
        self.word = word
