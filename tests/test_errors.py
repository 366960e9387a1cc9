"""Point 2 and the interface: the errors."""

import builtins
import copy
import unittest

from whateverboxes import errors
from whateverboxes.errors import (BadMachine, BadText, BoxError, Dealt, Failed, NoForm, NothingDealt, Solved,
                                  TooFar)
from whateverboxes.systems import System

KEPT = ((BadText, "line"), (Failed, "line"), (BadMachine, "state"), (NoForm, "reached"), (TooFar, "most"),
        (Dealt, "number"), (Solved, "numbers"))
CLASSES = tuple(one for one, _ in KEPT) + (NothingDealt,)


def deep(depth):
    value = 0
    for _ in range(depth):
        value = [value]
    return value


def values():
    """Values of all kinds, also such as cannot be written or compared quickly."""
    return (0, 1, -7, True, False, None, "", "x" * 20000, "line\nfeed", (), (1, 2, 3), ("x", "y"), [], [1, [2]],
            {}, {"a": (1, 2)}, 10 ** 60 - 1, -(10 ** 60) + 1, 10 ** 6000, deep(200), tuple(range(200000)),
            System(("x",), ()), BadText(3))


class ErrorsTest(unittest.TestCase):
    def test_each_error_keeps_what_it_was_made_of(self):
        for one, name in KEPT:
            for value in values():
                self.assertIs(getattr(one(value), name), value)
                self.assertIs(getattr(one(**{name: value}), name), value)

    def test_what_is_kept_is_not_changed(self):
        for one, name in KEPT:
            value = [1, {"a": [2]}]
            for error in (one(value), one(**{name: value})):
                str(error)
                self.assertEqual(value, [1, {"a": [2]}])

    def test_errors_keep_their_own_values(self):
        first, second = BadText(1), BadText(2)
        self.assertEqual((first.line, second.line), (1, 2))
        third = BadText(line=3)
        self.assertEqual((first.line, second.line, third.line), (1, 2, 3))

    def test_each_error_wants_just_its_argument(self):
        for one, _ in KEPT:
            with self.assertRaises(TypeError):
                one()
            with self.assertRaises(TypeError):
                one(1, 2)
            with self.assertRaises(TypeError):
                one(wrong=1)

    def test_nothing_dealt_keeps_nothing(self):
        self.assertIsInstance(NothingDealt(), BoxError)
        self.assertEqual(vars(NothingDealt()), {})

    def test_the_classes_are_apart(self):
        for one in CLASSES:
            error = NothingDealt() if one is NothingDealt else one(1)
            self.assertIs(type(error), one)
            self.assertIsInstance(error, BoxError)
            for other in CLASSES:
                self.assertEqual(isinstance(error, other), other is one)

    def test_the_only_base_classes_are_the_ones_stated(self):
        self.assertEqual(BoxError.__bases__, (Exception,))
        for one in CLASSES:
            self.assertEqual(one.__bases__, (BoxError,))

    def test_they_are_none_of_the_usual_errors(self):
        usual = [one for one in vars(builtins).values() if isinstance(one, type)
                 and issubclass(one, BaseException) and one not in (BaseException, Exception)]
        self.assertIn(ValueError, usual)
        for one in CLASSES + (BoxError,):
            for other in usual:
                self.assertFalse(issubclass(one, other))

    def test_raised_they_can_be_caught_as_box_errors(self):
        for one in CLASSES:
            error = NothingDealt() if one is NothingDealt else one((1, 2))
            for caught in (one, BoxError, Exception):
                try:
                    raise error
                except caught as held:
                    self.assertIs(held, error)
            for other in CLASSES:
                if other is not one:
                    with self.assertRaises(one):
                        try:
                            raise error
                        except other:
                            pass

    def test_each_can_be_written_whatever_it_keeps(self):
        for one, _ in KEPT:
            for value in values():
                self.assertIsInstance(str(one(value)), str)
                self.assertIsInstance(repr(one(value)), str)

    def test_copies_keep_the_same(self):
        for one, name in KEPT:
            for error in (one((1, 2)), one(**{name: (1, 2)})):
                self.assertEqual(getattr(copy.copy(error), name), (1, 2))

    def test_they_are_defined_in_their_file(self):
        for one in CLASSES + (BoxError,):
            self.assertEqual(one.__module__, "whateverboxes.errors")
            self.assertIs(getattr(errors, one.__name__), one)
        for one, _ in KEPT:
            self.assertIn("__init__", vars(one))


if __name__ == "__main__":
    unittest.main()
