"""Promise [5]: shares."""

import itertools
import random
import unittest
from fractions import Fraction

from tests.samples import ANY_VALUES, NO_INTEGERS
from wishunseen.errors import InvalidShare, InvalidText, Undefined
from wishunseen.shares import Share, total_of

PAIRS = [(top, bottom) for top in range(-9, 10) for bottom in range(-9, 10) if bottom != 0] + [
    (10 ** 100 - 1, 10 ** 99 + 7), (-10 ** 100, 10 ** 100), (6 * 10 ** 99, -4 * 10 ** 99), (0, -10 ** 100),
    (2 ** 300, 2 ** 299), (3 ** 200, -3 ** 205),
]
SOME = [(0, 1), (1, 1), (-1, 1), (2, 1), (-7, 1), (1, 2), (-1, 2), (6, 4), (-5, 3), (3, -9), (10 ** 100, 3)]


def fraction(share):
    return Fraction(share.top, share.bottom)


class Making(unittest.TestCase):
    def check(self, share, told):
        """That this is the very share in lowest terms."""
        self.assertIs(type(share), Share)
        self.assertIs(type(share.top), int)
        self.assertIs(type(share.bottom), int)
        self.assertEqual((share.top, share.bottom), (told.numerator, told.denominator))

    def test_lowest_terms(self):
        for top, bottom in PAIRS:
            self.check(Share(top, bottom), Fraction(top, bottom))
        self.check(Share(5), Fraction(5))
        self.check(Share(top=-6, bottom=4), Fraction(-3, 2))
        self.check(Share(bottom=-4, top=6), Fraction(-3, 2))

    def test_what_is_no_share(self):
        for value in NO_INTEGERS:
            for pair in ((value, 1), (1, value), (value, value), (value, 0)):
                with self.assertRaises(InvalidShare) as caught:
                    Share(*pair)
                self.assertIs(type(caught.exception.value), tuple)
                self.assertIs(caught.exception.value[0], pair[0])
                self.assertIs(caught.exception.value[1], pair[1])
            with self.assertRaises(InvalidShare) as caught:
                Share(value)
            self.assertEqual(caught.exception.value[1], 1)
        for top in (0, 1, -3, 10 ** 100):
            with self.assertRaises(InvalidShare) as caught:
                Share(top, 0)
            self.assertEqual(caught.exception.value, (top, 0))


class Reckoning(Making):
    def test_two_shares(self):
        for one, other in itertools.product(SOME, repeat=2):
            a, b, x, y = Share(*one), Share(*other), Fraction(*one), Fraction(*other)
            self.check(a + b, x + y)
            self.check(a - b, x - y)
            self.check(a * b, x * y)
            self.check(a, x)
            self.check(b, y)
            self.assertIs(a == b, x == y)
            self.assertIs(a != b, x != y)
            self.assertIs(a.below(b), x < y)
            if y != 0:
                self.check(a.over(b), x / y)

    def test_a_share_and_an_integer(self):
        for one in SOME:
            for n in (0, 1, -1, 2, -7, 10 ** 100):
                a, x = Share(*one), Fraction(*one)
                self.check(a + n, x + n)
                self.check(n + a, n + x)
                self.check(a - n, x - n)
                self.check(n - a, n - x)
                self.check(a * n, x * n)
                self.check(n * a, n * x)
                self.assertIs(a == n, x == n)
                self.assertIs(n == a, x == n)
                self.assertIs(a != n, x != n)
                self.assertIs(a.below(other=n), x < n)
                if n != 0:
                    self.check(a.over(other=n), x / n)

    def test_bools_and_others_are_no_terms(self):
        for value in NO_INTEGERS:
            if isinstance(value, Share):
                continue
            for one in (Share(1), Share(0), Share(1, 2)):
                with self.assertRaises(TypeError):
                    one + value
                with self.assertRaises(TypeError):
                    value + one
                with self.assertRaises(TypeError):
                    one - value
                with self.assertRaises(TypeError):
                    value - one
                with self.assertRaises(TypeError):
                    one * value
                with self.assertRaises(TypeError):
                    value * one

    def test_equal_to_nothing_else(self):
        for value in ANY_VALUES:
            if isinstance(value, Share) or value in (0, 1, 2) and not isinstance(value, bool):
                continue
            for one in (Share(1), Share(0), Share(2), Share(1, 2)):
                self.assertIs(one == value, False)
                self.assertIs(value == one, False)
                self.assertIs(one != value, True)
        for value in (True, False, 1.0, 0.5, "1", (1, 1), Fraction(1)):
            self.assertIs(Share(1) == value, False)
            self.assertIs(Share(0) == value, False)

    def test_negative_and_bool(self):
        for top, bottom in PAIRS:
            self.check(-Share(top, bottom), -Fraction(top, bottom))
            self.assertIs(bool(Share(top, bottom)), top != 0)

    def test_over_nothing(self):
        for one in SOME:
            for nothing in (0, Share(0), Share(0, -7)):
                with self.assertRaises(Undefined) as caught:
                    Share(*one).over(nothing)
                self.assertEqual(caught.exception.what, "share")
                self.assertIs(type(Share(*one).below(nothing)), bool)

    def test_over_keeps_the_bottom_above_nothing(self):
        self.check(Share(1, 2).over(Share(-1, 3)), Fraction(-3, 2))
        self.check(Share(-1, 2).over(-2), Fraction(1, 4))

    def test_totals(self):
        rng = random.Random(3)
        self.check(total_of(()), Fraction(0))
        self.check(total_of([]), Fraction(0))
        self.check(total_of((5,)), Fraction(5))
        self.check(total_of(shares=[-2, Share(1, 2)]), Fraction(-3, 2))
        for count in range(1, 12):
            terms = [Share(rng.randint(-9, 9), rng.randint(1, 9)) for _ in range(count)]
            terms[count // 2] = rng.randint(-9, 9)
            told = sum((fraction(term) if isinstance(term, Share) else Fraction(term) for term in terms), Fraction(0))
            before = list(terms)
            self.check(total_of(terms), told)
            self.check(total_of(tuple(terms)), told)
            self.assertTrue(all(one is other for one, other in zip(before, terms)))


class Texts(unittest.TestCase):
    def test_texts(self):
        for top, bottom in PAIRS:
            share = Share(top, bottom)
            text = str(share)
            self.assertEqual(text, str(Fraction(top, bottom)))
            self.assertIs(type(Share.told(text)), Share)
            self.assertEqual((Share.told(text).top, Share.told(text).bottom), (share.top, share.bottom))
        self.assertEqual(str(Share(0, -5)), "0")
        self.assertEqual(str(Share(-8, 6)), "-4/3")
        self.assertEqual(Share.told(text="-4/3"), Share(-4, 3))

    def test_figures_in_the_middle_keep_their_noughts(self):
        for power in (59, 60, 61, 119, 120, 121, 180):
            for n in (10 ** power, 10 ** power + 1, 10 ** power - 1, 7 * 10 ** power + 10 ** (power // 2)):
                self.assertEqual(str(Share(-n, 10 ** 200 + 1)), str(Fraction(-n, 10 ** 200 + 1)))
                self.assertEqual(Share.told(str(n)).top, n)

    def test_sums_grow_beyond_what_python_tells_at_once(self):
        bottoms = [10 ** 99 + k for k in range(1, 120, 2)]
        total = total_of([Share(1, bottom) for bottom in bottoms])
        self.assertGreater(total.bottom, 10 ** 4400)
        self.assertEqual(Share.told(str(total)), total)
        self.assertEqual(Share.told(str(-total)), -total)

    def check_wrong(self, text):
        with self.assertRaises(InvalidText, msg=text) as caught:
            Share.told(text)
        self.assertEqual(caught.exception.text, text)
        self.assertIs(type(caught.exception.at), int)
        self.assertTrue(0 <= caught.exception.at <= len(text), text)

    def test_what_is_no_text_of_a_share(self):
        for text in (
            "", "-", "/", "-/", "1/", "/2", "-/2", "-0", "-0/2", "0/1", "0/2", "0/0", "1/0", "-1/0", "1/1", "-5/1",
            "2/4", "-3/9", "4/2", "01", "-01", "00", "1/02", "01/2", "1/00", "+1", "--1", "1-", "1/-2", "1/+2",
            "-1/-2", "1//2", "1/2/", "1/2/3", "/1/2", " 1", "1 ", "1 /2", "1/ 2", "1\n", "\n1", "1_0", "1.0", "1/2.",
            "0x1", "1e1", "a", "1a", "1/a", "\u0661", "1/\u0662", "\u00b2", "\u0664/3", "1\u00bd", "- 1", "None",
            "True", "1\x00", ",",
        ):
            self.check_wrong(text)

    def test_every_short_text(self):
        right = {str(Fraction(top, bottom)) for top in range(-222, 2223) for bottom in range(1, 23)}
        for length in range(5):
            for signs in itertools.product("-/012", repeat=length):
                text = "".join(signs)
                if text in right:
                    self.assertEqual(str(Share.told(text)), text)
                else:
                    self.check_wrong(text)

    def test_spoilt_texts(self):
        texts = {str(Fraction(top, bottom)) for top in (-12, -1, 0, 7, 10 ** 40) for bottom in (1, 3, 25, 11 ** 30)}
        for text in texts:
            for at in range(len(text) + 1):
                for spoilt in [text[:at] + text[at + 1:]] + [text[:at] + sign + text[at:] for sign in "-/0 +x"]:
                    try:
                        told = str(Fraction(spoilt)) == spoilt
                    except (ValueError, ZeroDivisionError):
                        told = False
                    if told:
                        self.assertEqual(fraction(Share.told(spoilt)), Fraction(spoilt))
                    else:
                        self.check_wrong(spoilt)


if __name__ == "__main__":
    unittest.main()
