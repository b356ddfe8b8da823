"""Promise [9]: libraries."""

import itertools
import unittest

from tests.samples import ANY_VALUES, FIELDS, NO_FIELDS, NO_INTEGERS, nested
from wishunseen.editions import Shelf
from wishunseen.errors import InvalidLibrary, InvalidNumber
from wishunseen.libraries import Library, every_library
from wishunseen.shares import Share

NO_BOOKS = tuple(value for value in ANY_VALUES if value not in (((1,),), ([1],), [[1]])) + (
    [()], ([],), ((), ()), ((1,), ()), ((), (1,)), ((1, 0), (1,)), ([1], [1, 0]), ((1, 0), 1), (1, (1, 0)),
    ((1, 0), None), ((1, True),), ((False, 0),), [[0, None]], ((0, "1"),), ("01", "10"), "01", ((0, -1),), ((0, 31),),
    ((0, 32), (0, 0)), ((0, 0), (0, 10 ** 40)), ((0, (1,)),), (((1,),),), ((0, Share(1)),), nested(10), {(1,): 0},
)


class Making(unittest.TestCase):
    def test_attributes(self):
        for books in (
            ((1, 0), (2, 1), (0, 0)), [[1, 0], [2, 1], [0, 0]], ([1, 0], (2, 1), [0, 0]), [(1, 0), [2, 1], (0, 0)],
        ):
            library = Library(3, books)
            self.assertEqual(library.p, 3)
            self.assertEqual(library.books, ((1, 0), (2, 1), (0, 0)))
            self.assertIs(type(library.books), tuple)
            self.assertTrue(all(type(book) is tuple for book in library.books))
            self.assertEqual((library.book_count, library.book_length), (3, 2))
            self.assertEqual(library.letters, (1, 0, 2, 1, 0, 0))
        self.assertEqual(Library(p=31, books=((30,),)).letters, (30,))

    def test_up_to_the_limits(self):
        for p in FIELDS:
            books = [[(k * 24 + i) % p for i in range(24)] for k in range(9)]
            library = Library(p, books)
            self.assertEqual(library.letters, tuple(letter for book in books for letter in book))
            self.assertEqual([library.book(k) for k in range(9)], [tuple(book) for book in books])

    def test_later_changes_have_no_effect(self):
        inner = [1, 0]
        books = [inner, [0, 1]]
        library = Library(2, books)
        inner[0] = 0
        books.append([1, 1])
        self.assertEqual((library.books, library.letters, library.book_count), (((1, 0), (0, 1)), (1, 0, 0, 1), 2))
        self.assertEqual(books, [[0, 0], [0, 1], [1, 1]])

    def test_wrong_fields_come_first(self):
        for p in NO_FIELDS:
            for books in (((1,),), (), None, p):
                with self.assertRaises(InvalidNumber) as caught:
                    Library(p, books)
                self.assertIs(caught.exception.value, p)
            for call in (lambda: Library.of_letters(p, 1, (0, 1)), lambda: every_library(p, 1, 1)):
                with self.assertRaises(InvalidNumber) as caught:
                    call()
                self.assertIs(caught.exception.value, p)

    def test_wrong_books(self):
        for books in NO_BOOKS:
            with self.assertRaises(InvalidLibrary, msg=books) as caught:
                Library(31, books)
            self.assertIs(caught.exception.value, books)
        for p in FIELDS:
            for books in ([[0, p]], [[p]], [[0], [p]], [[-1]]):
                with self.assertRaises(InvalidLibrary) as caught:
                    Library(p, books)
                self.assertIs(caught.exception.value, books)
                books[0][0] = "later"
                self.assertEqual(caught.exception.value[0][0], "later")


class Equality(unittest.TestCase):
    def test_equal(self):
        for one, other in (
            (Library(2, ((1, 0), (0, 1))), Library(2, [[1, 0], (0, 1)])),
            (Library(5, [[4]]), Library.of_letters(5, 1, [4])),
        ):
            self.assertIs(one == other, True)
            self.assertIs(one != other, False)

    def test_unequal(self):
        library = Library(2, ((1, 0), (0, 1)))
        for other in (
            Library(2, ((1, 0, 0, 1),)), Library(2, ((1,), (0,), (0,), (1,))), Library(3, ((1, 0), (0, 1))),
            Library(2, ((1, 0), (1, 1))), Library(2, ((1, 0),)), ((1, 0), (0, 1)), (1, 0, 0, 1), Shelf(library),
        ) + ANY_VALUES:
            self.assertIs(library == other, False)
            self.assertIs(other == library, False)
            self.assertIs(library != other, True)


class Books(unittest.TestCase):
    library = Library(3, ((1, 0), (2, 1), (0, 0)))

    def test_book(self):
        self.assertEqual([self.library.book(k) for k in range(3)], [(1, 0), (2, 1), (0, 0)])
        self.assertEqual(self.library.book(k=1), (2, 1))

    def test_wrong_numbers(self):
        for k in NO_INTEGERS + (-1, -3, 3, 4, 10 ** 40, nested(10)):
            for call in (
                lambda: self.library.book(k), lambda: self.library.changed(k, (0, 0)),
                lambda: self.library.changed(k, None), lambda: self.library.changed(k, k),
            ):
                with self.assertRaises(InvalidNumber) as caught:
                    call()
                self.assertIs(caught.exception.value, k)

    def test_changed(self):
        for book in ((2, 2), [2, 2]):
            for k in range(3):
                changed = self.library.changed(k, book)
                told = [(1, 0), (2, 1), (0, 0)]
                told[k] = (2, 2)
                self.assertIs(type(changed), Library)
                self.assertEqual(changed, Library(3, told))
                self.assertEqual(changed.books, tuple(told))
                self.assertEqual(changed.letters, tuple(letter for book in told for letter in book))
        self.assertEqual(self.library.changed(book=[0, 0], k=0).books, ((0, 0), (2, 1), (0, 0)))
        self.assertEqual(self.library, Library(3, ((1, 0), (2, 1), (0, 0))))

    def test_later_changes_of_the_book_have_no_effect(self):
        book = [2, 2]
        changed = self.library.changed(0, book)
        book[0] = 0
        self.assertEqual(changed.book(0), (2, 2))

    def test_wrong_books(self):
        for book in tuple(value for value in ANY_VALUES if value not in ((2, 3), [2, 3])) + (
            (1,), [1, 2, 0], (0, 3), [3, 0], (0, -1), (0, True), [None, 0], ("1", 0), "10", ((1, 0),), (2, 3), [2, 3],
        ):
            with self.assertRaises(InvalidLibrary) as caught:
                self.library.changed(0, book)
            self.assertIs(caught.exception.value, book)


class Letters(unittest.TestCase):
    def test_of_letters(self):
        for length in (1, 2, 3, 6):
            for letters in ((1, 0, 2, 1, 0, 0), [1, 0, 2, 1, 0, 0]):
                library = Library.of_letters(3, length, letters)
                self.assertIs(type(library), Library)
                self.assertEqual(library.letters, (1, 0, 2, 1, 0, 0))
                self.assertEqual((library.book_length, library.book_count), (length, 6 // length))
                self.assertEqual(library.books, tuple(tuple(letters[k:k + length]) for k in range(0, 6, length)))
        self.assertEqual(Library.of_letters(letters=[1], book_length=1, p=2), Library(2, ((1,),)))

    def test_later_changes_of_the_letters_have_no_effect(self):
        letters = [1, 0]
        library = Library.of_letters(2, 1, letters)
        letters[0] = 0
        self.assertEqual(library, Library(2, ((1,), (0,))))

    def test_there_and_back(self):
        library = Library(5, ((4, 0, 1), (2, 3, 3)))
        self.assertEqual(Library.of_letters(5, 3, library.letters), library)

    def test_every_library(self):
        for p, count, length in (
            (2, 1, 1), (2, 2, 2), (2, 1, 4), (2, 4, 1), (3, 2, 1), (3, 1, 3), (31, 1, 1), (31, 2, 1), (2, 4, 3),
        ):
            told = [
                Library.of_letters(p, length, letters) for letters in itertools.product(range(p), repeat=count * length)
            ]
            found = every_library(p, count, length)
            self.assertIs(type(found), tuple)
            self.assertEqual(len(found), len(told))
            self.assertTrue(all(one == other for one, other in zip(found, told)))
            self.assertTrue(all((one.book_count, one.book_length) == (count, length) for one in found))
        self.assertEqual(every_library(book_length=1, book_count=1, p=2), (Library(2, ((0,),)), Library(2, ((1,),))))


if __name__ == "__main__":
    unittest.main()
