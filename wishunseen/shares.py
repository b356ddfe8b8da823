"""Shares: fractions in lowest terms."""

from math import gcd

from wishunseen.errors import InvalidShare, InvalidText, Undefined
from wishunseen.kinds import figures_of, is_figures, is_integer, number_told


class Share:
    """A fraction in lowest terms, with a bottom above 0."""

    def __init__(self, top, bottom=1):
        if not is_integer(top) or not is_integer(bottom) or bottom == 0:
            raise InvalidShare((top, bottom))
        common = gcd(top, bottom) if bottom > 0 else -gcd(top, bottom)
        self.top = top // common
        self.bottom = bottom // common

    def __add__(self, other):
        if not _is_term(other):
            return NotImplemented
        term = _as_share(other)
        return Share(self.top * term.bottom + term.top * self.bottom, self.bottom * term.bottom)

    def __radd__(self, other):
        return self + other

    def __sub__(self, other):
        if not _is_term(other):
            return NotImplemented
        return self + -other

    def __rsub__(self, other):
        return -self + other

    def __mul__(self, other):
        if not _is_term(other):
            return NotImplemented
        term = _as_share(other)
        return Share(self.top * term.top, self.bottom * term.bottom)

    def __rmul__(self, other):
        return self * other

    def __neg__(self):
        return Share(-self.top, self.bottom)

    def __eq__(self, other):
        if isinstance(other, Share):
            return self.top == other.top and self.bottom == other.bottom
        return is_integer(other) and self.bottom == 1 and self.top == other

    def __bool__(self):
        return bool(self.top)

    def __str__(self):
        if self.bottom == 1:
            return f"{_signed_figures(self.top)}"
        return f"{_signed_figures(self.top)}/{figures_of(self.bottom)}"

    def over(self, other):
        """This share divided by a share or integer."""
        term = _as_share(other)
        if not term:
            raise Undefined("share")
        return Share(self.top * term.bottom, self.bottom * term.top)

    def below(self, other):
        """Whether this share is less than a share or integer."""
        term = _as_share(other)
        return self.top * term.bottom < term.top * self.bottom

    @classmethod
    def told(cls, text):
        """The share whose str this text is."""
        top, slash, bottom = text.removeprefix("-").partition("/")
        if not is_figures(top):
            raise InvalidText(text, 0)
        if slash == "/" and (not is_figures(bottom) or bottom == "0"):
            raise InvalidText(text, len(text) - len(bottom))
        sign = -1 if text.startswith("-") else 1
        share = cls(sign * number_told(top), number_told(bottom) if slash == "/" else 1)
        if str(share) != text:
            raise InvalidText(text, 0)
        return share


def total_of(shares):
    """The sum of shares and integers."""
    total = Share(0)
    for share in shares:
        total = total + share
    return total


def _is_term(value):
    return isinstance(value, Share) or is_integer(value)


def _as_share(value):
    return value if isinstance(value, Share) else Share(value)


def _signed_figures(number):
    return f"-{figures_of(-number)}" if number < 0 else figures_of(number)
