"""Point 2: what an integer is."""

import unittest

from samples import nested, no_integers
from vasttypes.wholes import is_integer


class IsInteger(unittest.TestCase):
    def test_integers(self):
        for value in (0, 1, 2, -1, 10 ** 30, -10 ** 30, 2 ** 63, -2 ** 64, 10 ** 999):
            self.assertIs(is_integer(value), True)

    def test_true_and_false_are_none(self):
        self.assertIs(is_integer(True), False)
        self.assertIs(is_integer(False), False)

    def test_other_objects(self):
        for value in no_integers():
            self.assertIs(is_integer(value), False, value)

    def test_deep_objects(self):
        self.assertIs(is_integer(nested(2000, lambda value: [value])), False)
        self.assertIs(is_integer(nested(2000, lambda value: (value,))), False)

    def test_by_name(self):
        self.assertIs(is_integer(value=3), True)
        self.assertIs(is_integer(value=True), False)

    def test_place(self):
        self.assertEqual(is_integer.__module__, "vasttypes.wholes")


if __name__ == "__main__":
    unittest.main()
