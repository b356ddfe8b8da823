"""Promise [11]: pages."""

import random
import unittest

from tests.samples import ANY_VALUES, FIELDS, NO_FIELDS, nested
from wishunseen.errors import InvalidNumber, InvalidText, Undefined
from wishunseen.libraries import Library
from wishunseen.pages import pages_of, text_of, width_of

SIGNS = "".join(chr(code) for code in range(32, 127) if code != 37)
WIDTHS = {2: 7, 3: 5, 5: 3, 7: 3, 11: 2, 13: 2, 17: 2, 19: 2, 23: 2, 29: 2, 31: 2}
NO_SIGNS = ("%", "\n", "\t", "\x00", "\x1f", "\x7f", "\x80", "\xa0", "\u00e9", "\u20ac", "\U0001f600", "\ud800")


def plain_pages(p, length, text):
    """The books, by the words of the document."""
    width = WIDTHS[p]
    letters = []
    for sign in text:
        number = SIGNS.index(sign) + 1
        letters += [number // p ** (width - 1 - place) % p for place in range(width)]
    while len(letters) % length:
        letters.append(0)
    return tuple(tuple(letters[at:at + length]) for at in range(0, len(letters), length))


class Widths(unittest.TestCase):
    def test_each_field(self):
        for p in FIELDS:
            self.assertEqual(width_of(p), WIDTHS[p])
            self.assertEqual(width_of(p=p), WIDTHS[p])

    def test_the_field_comes_first(self):
        for p in NO_FIELDS:
            for call in (
                lambda: width_of(p), lambda: pages_of(p, 3, "a"), lambda: pages_of(p, 3, "%"), lambda: text_of(p, ()),
                lambda: text_of(p, None),
            ):
                with self.assertRaises(InvalidNumber) as caught:
                    call()
                self.assertIs(caught.exception.value, p)


class ThereAndBack(unittest.TestCase):
    def check(self, p, length, text):
        pages = pages_of(p, length, text)
        self.assertEqual(pages, plain_pages(p, length, text))
        self.assertIs(type(pages), tuple)
        self.assertTrue(all(type(book) is tuple for book in pages))
        self.assertEqual(text_of(p, pages), text)
        self.assertEqual(text_of(p, list(pages)), text)
        self.assertEqual(text_of(p, [list(book) for book in pages]), text)

    def test_each_sign(self):
        self.assertEqual(len(SIGNS), 94)
        for p in FIELDS:
            for sign in SIGNS:
                for length in (1, WIDTHS[p], WIDTHS[p] + 1):
                    self.check(p, length, sign)

    def test_texts_and_lengths(self):
        rng = random.Random(31)
        for p in FIELDS:
            for length in range(1, 26):
                for size in (0, 1, 2, 3, 11):
                    self.check(p, length, "".join(rng.choice(SIGNS) for _ in range(size)))
                self.check(p, length, SIGNS)

    def test_the_empty_text(self):
        for p in FIELDS:
            for length in (1, 2, 24, 1000):
                self.assertEqual(pages_of(p, length, ""), ())
            self.assertEqual(text_of(p, ()), "")
            self.assertEqual(text_of(p, []), "")

    def test_by_hand(self):
        self.assertEqual(pages_of(2, 4, "!"), ((0, 0, 0, 0), (0, 1, 0, 0)))
        self.assertEqual(pages_of(31, 3, " ~"), ((0, 1, 3), (1, 0, 0)))
        self.assertEqual(pages_of(p=11, book_length=2, text="$&"), ((0, 5), (0, 6)))
        self.assertEqual(text_of(p=31, pages=((0, 1, 3), (1, 0, 0))), " ~")

    def test_a_long_text(self):
        text = "".join(SIGNS[k * k % 94] for k in range(40000))
        for p, length in ((2, 24), (31, 1), (3, 7)):
            pages = pages_of(p, length, text)
            self.assertEqual(len(pages), -(-40000 * WIDTHS[p] // length))
            self.assertEqual(text_of(p, pages), text)

    def test_pages_are_books_of_a_library(self):
        library = Library(5, pages_of(5, 4, "wish"))
        self.assertEqual(text_of(5, library.books), "wish")


class WrongTexts(unittest.TestCase):
    def test_the_place_of_the_first(self):
        for p in FIELDS:
            for wrong in NO_SIGNS:
                for ahead in ("", "a", "a ~", SIGNS):
                    for behind in ("", "b", wrong, "\n%"):
                        text = ahead + wrong + behind
                        with self.assertRaises(InvalidText) as caught:
                            pages_of(p, 3, text)
                        self.assertEqual(caught.exception.text, text)
                        self.assertEqual(caught.exception.at, len(ahead))

    def test_every_other_character(self):
        for code in list(range(32)) + [37] + list(range(127, 700)):
            with self.assertRaises(InvalidText) as caught:
                pages_of(7, 2, "ab" + chr(code))
            self.assertEqual(caught.exception.at, 2)


class WrongPages(unittest.TestCase):
    def check_none(self, p, pages):
        with self.assertRaises(Undefined, msg=pages) as caught:
            text_of(p, pages)
        self.assertEqual(caught.exception.what, "text")

    def test_any_value(self):
        others = (nested(10), ((),), ((), ()), [()], "ab", ("ab",), ((0, True),), ((0, None),), ((0, -1),))
        for p in FIELDS:
            for pages in ANY_VALUES + others + (((0, p),),):
                if pages not in ((), []):
                    self.check_none(p, pages)

    def test_every_row_of_letters_of_one_book(self):
        for p, length in ((2, 7), (2, 8), (2, 9), (11, 2), (11, 3), (31, 2), (7, 3), (3, 5), (3, 6)):
            right = {plain_pages(p, length, sign)[0]: sign for sign in SIGNS}
            row = [0] * length
            for number in range(p ** length):
                for place in range(length):
                    row[length - 1 - place] = number // p ** place % p
                book = tuple(row)
                if book in right:
                    self.assertEqual(text_of(p, (book,)), right[book])
                else:
                    self.check_none(p, (book,))

    def test_numbers_that_are_no_signs(self):
        for p in FIELDS:
            width = WIDTHS[p]
            for number in [0] + list(range(95, p ** width)):
                if number > 300:
                    break
                digits = [number // p ** (width - 1 - place) % p for place in range(width)]
                sign = list(plain_pages(p, width, "a")[0])
                for letters in (digits, sign + digits, digits + sign, sign + digits + sign):
                    self.check_none(p, (tuple(letters[:width]),) + tuple(
                        tuple(letters[at:at + width]) for at in range(width, len(letters), width)
                    ))

    def test_spoilt_pages(self):
        rng = random.Random(32)
        for p in FIELDS:
            for length in (1, 2, 3, 5, 8, 24):
                for size in (1, 2, 4):
                    text = "".join(rng.choice(SIGNS) for _ in range(size))
                    pages = plain_pages(p, length, text)
                    longer = {plain_pages(p, length, text + sign): text + sign for sign in SIGNS}
                    self.check_none(p, pages + ((0,) * length,))
                    self.check_none(p, [(0,) * length] * WIDTHS[p] + list(pages))
                    self.check_none(p, pages + (pages[-1] + (0,),))
                    self.check_none(p, pages + (pages[-1][1:],))
                    self.check_none(p, pages + ([],))
                    self.check_none(p, pages + (None,))
                    self.check_none(p, ((0,) * length,) * len(pages))
                    filling = len(pages) * length - size * WIDTHS[p]
                    for place in range(1, filling + 1):
                        spoilt = pages[:-1] + (pages[-1][:-place] + (1,) + (0,) * (place - 1),)
                        if spoilt in longer:
                            self.assertEqual(text_of(p, spoilt), longer[spoilt])
                        else:
                            self.check_none(p, spoilt)

    def test_an_unfinished_sign(self):
        self.check_none(2, ((0, 0, 0, 0, 0, 0),))
        self.check_none(2, ((0, 0, 0, 0, 0, 1),))
        self.check_none(31, ((0, 1), (1, 1), (0, 0)))
        self.check_none(31, ((0,), (1,), (1,)))
        self.assertEqual(text_of(31, ((0, 1, 1), (1, 0, 0))), " @")


if __name__ == "__main__":
    unittest.main()
