"""Promise [6]: fields."""

import unittest

from tests.samples import ANY_VALUES, FIELDS, NO_FIELDS, NO_INTEGERS, nested
from wishunseen.errors import InvalidNumber, Undefined
from wishunseen.fields import inverse_of, is_field


class Fields(unittest.TestCase):
    def test_which_are_fields(self):
        for p in FIELDS:
            self.assertIs(is_field(p), True)
            self.assertIs(is_field(p=p), True)
        for p in NO_FIELDS + (nested(10),):
            self.assertIs(is_field(p), False, p if isinstance(p, (str, tuple, list)) else None)

    def test_each_inverse(self):
        for p in FIELDS:
            for a in range(1, p):
                b = inverse_of(p, a)
                self.assertIs(type(b), int)
                self.assertTrue(0 < b < p)
                self.assertEqual(a * b % p, 1)
                self.assertEqual(inverse_of(a=a, p=p), b)

    def test_nought_has_none(self):
        for p in FIELDS:
            with self.assertRaises(Undefined) as caught:
                inverse_of(p, 0)
            self.assertEqual(caught.exception.what, "inverse")

    def test_what_is_no_letter(self):
        for p in FIELDS:
            for a in NO_INTEGERS + (-1, -p, p, p + 1, 10 ** 40, nested(10)):
                with self.assertRaises(InvalidNumber) as caught:
                    inverse_of(p, a)
                self.assertIs(caught.exception.value, a)

    def test_the_field_comes_first(self):
        for p in NO_FIELDS:
            for a in ANY_VALUES + (p,):
                with self.assertRaises(InvalidNumber) as caught:
                    inverse_of(p, a)
                self.assertIs(caught.exception.value, p)


if __name__ == "__main__":
    unittest.main()
