"""Promise [3]: the errors."""

import unittest

from wishunseen import errors
from wishunseen.errors import WishError

NAMES = {
    "InvalidNumber": ("value",), "InvalidShare": ("value",), "InvalidMatrix": ("value",),
    "InvalidLibrary": ("value",), "InvalidPlan": ("part", "place"), "InvalidTape": ("value",),
    "InvalidAnswers": ("value",), "InvalidText": ("text", "at"), "InvalidLine": ("line", "at"),
    "UnknownWord": ("word",), "Undefined": ("what",), "NothingToUndo": ("word",),
}


class Errors(unittest.TestCase):
    def test_there_are_these_twelve_and_wish_error(self):
        classes = {name for name, thing in vars(errors).items() if isinstance(thing, type)}
        self.assertEqual(classes, set(NAMES) | {"WishError"})

    def test_each_stands_directly_under_wish_error(self):
        for name in NAMES:
            self.assertEqual(getattr(errors, name).__bases__, (WishError,), name)
        self.assertEqual(WishError.__bases__, (ValueError,))

    def test_none_stands_under_another(self):
        for one in NAMES:
            self.assertFalse(issubclass(WishError, getattr(errors, one)))
            for other in NAMES:
                under = issubclass(getattr(errors, one), getattr(errors, other))
                self.assertEqual(under, one == other, (one, other))

    def test_arguments_are_kept_themselves(self):
        for name, parameters in NAMES.items():
            given = [[at, "x"] for at, _ in enumerate(parameters)]
            by_place = getattr(errors, name)(*given)
            by_name = getattr(errors, name)(**dict(zip(parameters, given)))
            for parameter, argument in zip(parameters, given):
                self.assertIs(getattr(by_place, parameter), argument, name)
                self.assertIs(getattr(by_name, parameter), argument, name)
                argument.append("later")
                self.assertEqual(getattr(by_place, parameter)[-1], "later", name)

    def test_any_value_is_kept(self):
        for name, parameters in NAMES.items():
            for value in (None, True, 0, -10 ** 5000, "", (), [None, [1]], ("a", (True,))):
                error = getattr(errors, name)(*[value for _ in parameters])
                for parameter in parameters:
                    self.assertIs(getattr(error, parameter), value)

    def test_arguments_are_neither_more_nor_fewer(self):
        for name, parameters in NAMES.items():
            with self.assertRaises(TypeError):
                getattr(errors, name)(*[1 for _ in parameters], 1)
            with self.assertRaises(TypeError):
                getattr(errors, name)()

    def test_each_is_caught_as_its_own_kind(self):
        for name, parameters in NAMES.items():
            own = getattr(errors, name)
            others = tuple(getattr(errors, other) for other in NAMES if other != name)
            for wider in (own, WishError, ValueError):
                try:
                    raise own(*[1 for _ in parameters])
                except others:
                    self.fail(name)
                except wider as error:
                    self.assertIs(type(error), own)


if __name__ == "__main__":
    unittest.main()
