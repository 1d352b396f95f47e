"""The examples of the document, and those of the README."""

import doctest
import os
import unittest

from vasttypes.errors import InvalidTerm
from vasttypes.terms import check_term, depth, free_names, node_count, paths, term_at

README = os.path.join(os.path.dirname(os.path.abspath(__file__)), os.pardir, "README.md")


class Document(unittest.TestCase):
    def test_e01(self):
        double = ('let', 'f', ('fun', 'x', ('tuple', [('var', 'x'), ('var', 'x')])), ('app', ('var', 'f'), ('int', 1)))
        self.assertEqual([node_count(double), depth(double), term_at(double, (0, 0, 1))], [8, 4, ('var', 'x')])

    def test_e02(self):
        with self.assertRaises(InvalidTerm) as caught:
            check_term(('app', ('var', 'f'), ('int', True)))
        self.assertEqual(caught.exception.path, (1,))

    def test_e03(self):
        term = ('let', 'x', ('var', 'x'), ('fun', 'y', ('app', ('var', 'x'), ('var', 'z'))))
        self.assertEqual([free_names(term), paths(term)],
                         [['x', 'z'], [(), (0,), (1,), (1, 0), (1, 0, 0), (1, 0, 1)]])


class Readme(unittest.TestCase):
    def test_readme(self):
        result = doctest.testfile(README, module_relative=False)
        self.assertGreater(result.attempted, 0)
        self.assertEqual(result.failed, 0)


if __name__ == "__main__":
    unittest.main()
