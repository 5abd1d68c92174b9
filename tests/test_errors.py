"""Point 2, the refusals: one base under ValueError, the others each straight under it."""

import unittest

from bandorder import errors

NAMES = [
    "NoThing", "Full", "NoPair", "NoShape", "NoTables", "NoSwap", "NoText", "Ring", "NoRow", "NoName",
]


class Errors(unittest.TestCase):
    def test_base_stands_straight_under_value_error(self):
        self.assertEqual(errors.BandError.__bases__, (ValueError,))

    def test_each_stands_straight_under_the_base(self):
        for name in NAMES:
            with self.subTest(name):
                self.assertEqual(getattr(errors, name).__bases__, (errors.BandError,))

    def test_none_stands_under_another_one(self):
        for one in NAMES:
            for other in NAMES:
                if one != other:
                    self.assertFalse(issubclass(getattr(errors, one), getattr(errors, other)), (one, other))

    def test_they_are_classes_of_their_own(self):
        self.assertEqual(len({getattr(errors, name) for name in NAMES}), len(NAMES))
        for name in NAMES:
            self.assertEqual(getattr(errors, name).__name__, name)
