"""Promise [1]: the words for kinds of values, as the whole package tells them."""

import unittest

from tests.samples import NO_INTEGERS
from wishunseen.kinds import (
    are_letters, figures_of, is_below, is_figures, is_integer, is_number, is_rising, is_sequence, list_text,
    number_or_none, number_told, numbers_told,
)


class Kinds(unittest.TestCase):
    def test_integers_and_numbers(self):
        for value in NO_INTEGERS:
            self.assertIs(is_integer(value), False)
            self.assertIs(is_number(value), False)
            self.assertIs(is_below(value, 5), False)
        for value in (-10 ** 40, -1, 0, 1, 10 ** 40):
            self.assertIs(is_integer(value), True)
            self.assertIs(is_number(value), value >= 0)
        self.assertEqual([is_below(value, 2) for value in (-1, 0, 1, 2)], [False, True, True, False])

    def test_sequences(self):
        self.assertEqual([is_sequence(value) for value in ((), [], "", {}, None)], [True, True, False, False, False])
        self.assertTrue(are_letters(3, 2, [0, 2]) and are_letters(3, 0, ()))
        for value in ((0, 3), (0,), (0, True), "00", None):
            self.assertFalse(are_letters(3, 2, value))

    def test_rising_is_strictly_ascending(self):
        for value in ((), (3,), (-1, 0, 5), [0, 1]):
            self.assertIs(is_rising(value), True)
        for value in ((0, 0), (1, 0), (0, 2, 2), (0, 2, 1)):
            self.assertIs(is_rising(value), False)

    def test_figures(self):
        for text in ("0", "7", "10", "1" + "0" * 5000):
            self.assertIs(is_figures(text), True)
            self.assertEqual(figures_of(number_told(text)), text)
        for text in ("", "00", "01", "-1", "+1", "1 ", "1a", "\u0661", "\u00b2", "1_0", "1\n"):
            self.assertIs(is_figures(text), False)

    def test_numbers_in_words(self):
        told = [number_or_none(word, 3) for word in ("0", "999", "1000", "01", "")]
        self.assertEqual(told, [0, 999, None, None, None])
        self.assertEqual(numbers_told(["7", "x", "12", ""], 1), (7, None, None, None))
        self.assertEqual([list_text(numbers) for numbers in ((), (3,), [0, 10 ** 5000])], ["", "3", "0,1" + "0" * 5000])


if __name__ == "__main__":
    unittest.main()
