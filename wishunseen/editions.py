"""Editions: what a library was, and is, as its books are changed one by one."""

from wishunseen.errors import InvalidNumber
from wishunseen.kinds import is_below


class Shelf:
    """Keeps the editions of a library; edition 0 is this one."""

    def __init__(self, library):
        self.edition = 0
        self._libraries = [library]

    def put(self, k, book):
        """Add an edition, the last one with this book as book k, and answer its number."""
        self._libraries.append(self._libraries[-1].changed(k, book))
        self.edition = len(self._libraries) - 1
        return self.edition

    def at(self, edition=None):
        """The library of an edition, of the last one if none is told."""
        if edition is None:
            return self._libraries[-1]
        if not is_below(edition, len(self._libraries)):
            raise InvalidNumber(edition)
        return self._libraries[edition]
