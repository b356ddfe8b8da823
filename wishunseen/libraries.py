"""Libraries: books of like length, written in letters of a field."""

from wishunseen.errors import InvalidLibrary, InvalidNumber
from wishunseen.fields import check_field
from wishunseen.kinds import are_letters, is_below, is_sequence, rows_below


class Library:
    """Books of like length, of letters for p."""

    def __init__(self, p, books):
        check_field(p)
        if not are_books(p, books):
            raise InvalidLibrary(books)
        self.p = p
        self.books = tuple([tuple(book) for book in books])
        self.book_count = len(self.books)
        self.book_length = len(self.books[0])
        self.letters = letters_of(self.books)

    def __eq__(self, other):
        return isinstance(other, Library) and self.p == other.p and self.books == other.books

    def book(self, k):
        """Book k."""
        self._check_book(k)
        return self.books[k]

    def changed(self, k, book):
        """A library with this book in the place of book k."""
        self._check_book(k)
        if not are_letters(self.p, self.book_length, book):
            raise InvalidLibrary(book)
        return Library(self.p, [*self.books[:k], book, *self.books[k + 1:]])

    @classmethod
    def of_letters(cls, p, book_length, letters):
        """The library with these letters, one book behind the other."""
        check_field(p)
        return cls(p, cut_in_books(book_length, letters))

    def _check_book(self, k):
        if not is_below(k, self.book_count):
            raise InvalidNumber(k)


def every_library(p, book_count, book_length):
    """All libraries of so many books of so many letters, ascending by their letters."""
    check_field(p)
    return tuple([Library.of_letters(p, book_length, row) for row in rows_below(p, book_count * book_length)])


def are_books(p, value):
    """Whether value is a non-empty sequence of non-empty sequences, of like lengths, of letters for p."""
    if not is_sequence(value) or len(value) == 0:
        return False
    if not is_sequence(value[0]) or len(value[0]) == 0:
        return False
    return all([are_letters(p, len(value[0]), book) for book in value])


def letters_of(books):
    """The letters of all books, one book behind the other."""
    return tuple([letter for book in books for letter in book])


def cut_in_books(book_length, letters):
    """The letters, cut into books of book_length letters."""
    return tuple([tuple(letters[at:at + book_length]) for at in range(0, len(letters), book_length)])
