"""Promise [10]: editions."""

import unittest

from tests.samples import NO_INTEGERS, nested
from wishunseen.editions import Shelf
from wishunseen.errors import InvalidLibrary, InvalidNumber
from wishunseen.libraries import Library

FIRST = Library(3, ((1, 0), (2, 1)))


class Editions(unittest.TestCase):
    def test_the_first_edition(self):
        shelf = Shelf(FIRST)
        self.assertEqual(shelf.edition, 0)
        for library in (shelf.at(), shelf.at(None), shelf.at(0), shelf.at(edition=0), shelf.at(edition=None)):
            self.assertIs(type(library), Library)
            self.assertEqual(library, FIRST)

    def test_puts(self):
        shelf = Shelf(library=FIRST)
        told = [FIRST]
        puts = [(0, (0, 0)), (1, [2, 2]), (1, (2, 2)), (0, [1, 0]), (1, (2, 1))]
        for k, book in puts:
            told.append(told[-1].changed(k, book))
            self.assertEqual(shelf.put(k, book), len(told) - 1)
            self.assertEqual(shelf.edition, len(told) - 1)
            self.assertEqual(shelf.at(), told[-1])
            self.assertEqual([shelf.at(n) for n in range(len(told))], told)
        self.assertEqual(shelf.put(book=[0, 1], k=0), 6)
        self.assertEqual(shelf.at().books, ((0, 1), (2, 1)))
        self.assertEqual(FIRST, Library(3, ((1, 0), (2, 1))))

    def test_later_changes_of_a_book_have_no_effect(self):
        shelf = Shelf(FIRST)
        book = [0, 0]
        shelf.put(0, book)
        book[0] = 2
        self.assertEqual(shelf.at(1).book(0), (0, 0))

    def test_wrong_editions(self):
        shelf = Shelf(FIRST)
        for last in range(3):
            for edition in NO_INTEGERS + (-1, -2, last + 1, last + 2, 10 ** 40, nested(10)):
                if edition is None:
                    continue
                with self.assertRaises(InvalidNumber) as caught:
                    shelf.at(edition)
                self.assertIs(caught.exception.value, edition)
            shelf.put(0, (0, 0))

    def check_refused(self, shelf, error, wrong, k, book):
        before = [shelf.at(n) for n in range(shelf.edition + 1)]
        with self.assertRaises(error) as caught:
            shelf.put(k, book)
        self.assertIs(caught.exception.value, wrong)
        self.assertEqual(shelf.edition, len(before) - 1)
        self.assertEqual([shelf.at(n) for n in range(len(before))], before)
        self.assertEqual(shelf.at(), before[-1])
        with self.assertRaises(InvalidNumber):
            shelf.at(len(before))

    def test_a_refused_put_changes_nothing(self):
        shelf = Shelf(FIRST)
        for _ in range(2):
            for k in NO_INTEGERS + (-1, 2, 10 ** 40):
                self.check_refused(shelf, InvalidNumber, k, k, (0, 0))
                self.check_refused(shelf, InvalidNumber, k, k, None)
            for book in (None, (), (0,), [0, 0, 0], (0, 3), (0, -1), [True, 0], "00", 0, ((0, 0),)):
                self.check_refused(shelf, InvalidLibrary, book, 1, book)
            shelf.put(1, (0, 0))

    def test_two_shelves_of_one_library_stay_apart(self):
        one, other = Shelf(FIRST), Shelf(FIRST)
        one.put(0, (2, 2))
        self.assertEqual((one.edition, other.edition), (1, 0))
        self.assertEqual(other.at(), FIRST)
        self.assertEqual(one.at(0), FIRST)
        with self.assertRaises(InvalidNumber):
            other.at(1)
        other.put(1, (0, 0))
        self.assertEqual(one.at(1).books, ((2, 2), (2, 1)))
        self.assertEqual(other.at(1).books, ((1, 0), (0, 0)))


if __name__ == "__main__":
    unittest.main()
