"""The examples of the document, as they stand there in examples.txt, and those of the README."""

import doctest
import os
import re
import unittest

from vasttypes import errors

HERE = os.path.dirname(os.path.abspath(__file__))
README = os.path.join(HERE, os.pardir, "README.md")


def examples():
    """Return the list of tuples (name, lines, expected) of the examples."""
    with open(os.path.join(HERE, "examples.txt"), encoding="ascii") as file:
        blocks = re.split(r"\n(?=e\d+:\n)", file.read())
    found = []
    for block in blocks:
        name, rest = block.split(":\n", 1)
        lines = [line.strip() for line in rest.splitlines() if line.strip()]
        found.append((name, [line.removeprefix(">>> ") for line in lines[:-1]], lines[-1]))
    return found


def outcome(lines):
    """Return what the last line of an example gives, as the document writes it."""
    space = {}
    try:
        for line in lines[:-1]:
            exec(line, space)
        return repr(eval(lines[-1], space))
    except errors.VastError as error:
        fields = ", ".join(f"{name}={value!r}" for name, value in vars(error).items())
        return f"raises {type(error).__name__}({fields})"


class Document(unittest.TestCase):
    def test_examples(self):
        self.assertEqual(len(examples()), 105)
        for name, lines, expected in examples():
            with self.subTest(name):
                self.assertEqual(outcome(lines), expected)


class Readme(unittest.TestCase):
    def test_readme(self):
        result = doctest.testfile(README, module_relative=False)
        self.assertGreater(result.attempted, 0)
        self.assertEqual(result.failed, 0)


if __name__ == "__main__":
    unittest.main()
