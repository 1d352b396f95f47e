"""Point 4: the classes of the errors, their base classes and their fields."""

import unittest

from samples import nested
from vasttypes import errors

FIELDS = {
    "InvalidTerm": ["path"],
    "InvalidPath": ["path"],
    "InvalidName": ["name"],
    "InvalidText": ["word"],
    "InvalidTree": ["path"],
    "InvalidBound": ["argument"],
    "NoType": ["path"],
    "InvalidLines": ["line", "word"],
    "InvalidCall": ["call"],
    "LimitExceeded": ["limit"],
}

VALUES = [None, 0, -1, 1000, True, "", "x", b"x", (), (0, 1), [], [0, [1]], {}, {"x": [1]}, set(), object(), int]


class Classes(unittest.TestCase):
    def test_common_base(self):
        self.assertEqual(errors.VastError.__bases__, (ArithmeticError,))

    def test_each_is_a_direct_subclass(self):
        for name in FIELDS:
            self.assertEqual(getattr(errors, name).__bases__, (errors.VastError,), name)

    def test_each_is_a_class_of_its_own(self):
        self.assertEqual(len({getattr(errors, name) for name in FIELDS}), 10)

    def test_names_and_places(self):
        for name in ["VastError"] + list(FIELDS):
            made = getattr(errors, name)
            self.assertEqual((made.__name__, made.__module__), (name, "vasttypes.errors"))


class Fields(unittest.TestCase):
    def test_by_position(self):
        for name, fields in FIELDS.items():
            for value in VALUES:
                error = getattr(errors, name)(*[(value, k) for k in range(len(fields))])
                for k, field in enumerate(fields):
                    self.assertEqual(getattr(error, field), (value, k))

    def test_by_name(self):
        for name, fields in FIELDS.items():
            for value in VALUES:
                error = getattr(errors, name)(**{field: (value, field) for field in reversed(fields)})
                for field in fields:
                    self.assertEqual(getattr(error, field), (value, field))

    def test_values_as_they_are(self):
        for name, fields in FIELDS.items():
            for value in VALUES:
                error = getattr(errors, name)(*[value for _ in fields])
                for field in fields:
                    self.assertEqual(repr(getattr(error, field)), repr(value))

    def test_each_object_has_its_own(self):
        one, other = errors.InvalidLines(1, 2), errors.InvalidLines(3, 4)
        self.assertEqual((one.line, one.word, other.line, other.word), (1, 2, 3, 4))

    def test_deep_values(self):
        deep = nested(2000, lambda value: [value])
        for name, fields in FIELDS.items():
            error = getattr(errors, name)(*[deep for _ in fields])
            self.assertIsInstance(getattr(error, fields[0]), list)

    def test_raised_and_caught(self):
        for name, fields in FIELDS.items():
            with self.assertRaises(errors.VastError) as caught:
                raise getattr(errors, name)(*fields)
            self.assertIs(type(caught.exception), getattr(errors, name))
            with self.assertRaises(ArithmeticError):
                raise getattr(errors, name)(*fields)
        with self.assertRaises(ArithmeticError):
            raise errors.VastError()


if __name__ == "__main__":
    unittest.main()
