"""Points 27, 28 and 31: signs, windows, spans and the paths over signs."""

import random
import unittest

from samples import (INT, V0, V1, fault, many_names, nested, no_integers, of, other_values, parts_of_tree,
                     random_tree, sized_tree, tree_under, trees_within, used_often)
from vasttypes import signs
from vasttypes.errors import InvalidBound, InvalidPath
from vasttypes.graphs import made, towers, vast
from vasttypes.signs import path_over, sign_at, span, text_length, window
from vasttypes.trees import check_tree
from vasttypes.treetexts import tree_text

TEXTS = ["int", "bool", "'a", "{}", "{| 'a}", "{x: int}", "{x: int, yy: 'a | 'b}", "int -> bool",
         "(int -> 'a) -> 'a -> int", "int * bool", "('a * 'a) * ('a * 'a)", "(int -> int) * 'a * {x: int * bool}",
         "int * 'a -> (bool -> int) * {| 'b}", "{x: int -> bool, y: {z: (int -> int) -> int | 'a} | 'b}",
         "((int * int) * int -> int) -> int"]


def random_types(count, seed):
    """Return a list of tuples (tree, big, text)."""
    source = random.Random(seed)
    trees = [random_tree(source, 4, source.choice([1, 3, 40])) for _ in range(count)]
    # Marks of variables that tails have, too, make no tree.
    return [(tree, vast(tree), tree_text(tree)) for tree in trees if fault(check_tree, tree) is None]


class Length(unittest.TestCase):
    def test_small_types(self):
        for text in TEXTS:
            self.assertEqual(text_length(of(text)), len(text))
        for _, big, text in random_types(200, 1):
            self.assertEqual(text_length(big=big), len(text))

    def test_towers(self):
        for n in range(401):
            self.assertEqual(text_length(towers(n)), 2 if n == 0 else 7 * 2 ** n - 7)

    def test_names_of_many_letters(self):
        tree = ("tuple", [("record", [(name, ("var", first + k)) for k, name in enumerate(many_names(350))], None)
                          for first in (0, 350)])
        self.assertEqual(text_length(vast(tree)), len(tree_text(tree)))
        # Behind 700 variables the one of the tower has a name of 3 signs, so the tower has as many as 8 for each of
        # them, but for 7, with brackets around.
        big = made("tuple", vast(tree).parts() + [towers(290)])
        self.assertEqual(text_length(big), len(tree_text(tree)) + 3 + 2 + 8 * 2 ** 290 - 7)
        self.assertEqual(window(big, text_length(big) - 300, 11), "('zy * 'zy)")


class Signs(unittest.TestCase):
    def test_every_sign(self):
        for text in TEXTS:
            big = of(text)
            self.assertEqual("".join([sign_at(big, k) for k in range(len(text))]), text)
            self.assertEqual(fault(sign_at, big, len(text)), (InvalidBound, "k"))
        for _, big, text in random_types(60, 2):
            self.assertEqual([sign_at(big, k=k) for k in range(len(text))], list(text))

    def test_large_types(self):
        big = towers(300)
        length = text_length(big)
        middle = (length - 3) // 2
        self.assertEqual([sign_at(big, k) for k in range(298, 304)], list("('a * "))
        self.assertEqual(sign_at(big, middle + 1), "*")
        self.assertEqual([sign_at(big, middle - 1), sign_at(big, middle + 3)], [")", "("])
        self.assertEqual([sign_at(big, length - k) for k in (1, 299, 300, 301)], [")", ")", "a", "'"])

    def test_wrong_numbers(self):
        for big in (of("int"), towers(300)):
            for k in [-1, text_length(big), text_length(big) + 1, -10 ** 300, 10 ** 300] + no_integers():
                self.assertEqual(fault(sign_at, big, k), (InvalidBound, "k"))
                self.assertEqual(fault(path_over, big, k), (InvalidBound, "k"))


class Windows(unittest.TestCase):
    def test_all_windows(self):
        for text in TEXTS:
            big = of(text)
            for first in range(len(text) + 1):
                for many in (0, 1, 2, 5, len(text), 1000):
                    self.assertEqual(window(big, first, many), text[first:first + many])

    def test_random_types(self):
        source = random.Random(3)
        for _, big, text in random_types(100, 3):
            first, many = source.randint(0, len(text)), source.randint(0, 30)
            self.assertEqual(window(many=many, first=first, big=big), text[first:first + many])

    def test_towers(self):
        text = tree_text(towers(8).tree())
        for first in (0, 1, 200, len(text) - 1000, len(text) - 1, len(text)):
            self.assertEqual(window(towers(8), first, 1000), text[first:first + 1000])
        length = text_length(towers(400))
        self.assertEqual(window(towers(400), 0, 410), "(" * 399 + "'a * 'a) * ")
        self.assertEqual(window(towers(400), length - 403, 1000), "* 'a" + ")" * 399)
        self.assertEqual(window(towers(400), length, 1000), "")
        middle = (length - 3) // 2
        self.assertEqual(window(towers(400), middle - 400, 805), "a" + ")" * 399 + " * " + "(" * 399 + "'a ")

    def test_wrong_numbers(self):
        big = towers(300)
        length = text_length(big)
        for first in [-1, length + 1, -10 ** 300] + no_integers():
            for many in (0, 1001, None):
                self.assertEqual(fault(window, big, first, many), (InvalidBound, "first"))
        for many in [-1, 1001, 10 ** 300] + no_integers():
            for first in (0, length):
                self.assertEqual(fault(window, big, first, many), (InvalidBound, "many"))
        self.assertEqual(window(of("int"), 3, 1000), "")
        self.assertEqual(fault(window, of("int"), 4, 0), (InvalidBound, "first"))


class Spans(unittest.TestCase):
    def test_examples(self):
        big = of("(int -> 'a) * {x: int, y: 'a * 'a | 'b} * 'a")
        for path, text in (((), "(int -> 'a) * {x: int, y: 'a * 'a | 'b} * 'a"), ((0,), "(int -> 'a)"), ((0, 0), "int"),
                           ((0, 1), "'a"), ((1,), "{x: int, y: 'a * 'a | 'b}"), ((1, 0), "int"), ((1, 1), "'a * 'a"),
                           ((1, 1, 0), "'a"), ((2,), "'a")):
            first, after = span(big, path)
            self.assertEqual(window(big, first, after - first), text)
        self.assertEqual([span(big, path) for path in ((0,), (0, 0), (1,), (1, 1), (1, 1, 1), (2,))],
                         [(0, 11), (1, 4), (14, 39), (26, 33), (31, 33), (42, 44)])
        self.assertEqual(span(towers(2), (1,)), (12, 21))
        self.assertEqual(span(path=(1, 0), big=towers(2)), (13, 15))
        self.assertEqual(span(of("(int -> int) -> int"), (0,)), (0, 12))
        self.assertEqual(span(of("int -> int -> int"), (1,)), (7, 17))

    def test_signs_and_spans_agree(self):
        for tree, big, text in random_types(150, 4):
            over = [None] * len(text)
            ends = {}
            for path, part in parts_of_tree(tree):
                first, after = span(big, path)
                self.assertTrue(0 <= first < after <= len(text))
                ends[path] = (first, after)
                if path:
                    around = ends[path[:-1]]
                    self.assertTrue(around[0] <= first and after <= around[1])
                    if path[-1] > 0:
                        # Parts of one type stand one behind the other, with something between them.
                        self.assertLess(ends[path[:-1] + (path[-1] - 1,)][1], first)
                alone = len(tree_text(part)) if not has_long_names(text) else None
                if alone is not None:
                    self.assertIn(after - first - alone, (0, 2))
                over[first:after] = [path] * (after - first)
            self.assertEqual([path_over(big, k) for k in range(len(text))], over)

    def test_brackets_belong_to_the_part(self):
        big = of("('a -> 'b) * ('a * 'b) -> ('a -> int) -> 'b")
        for path, _ in parts_of_tree(big.tree()):
            first, after = span(big, path)
            text = window(big, first, after - first)
            kind, around = big.part(path).kind(), big.part(path[:-1]).kind() if path else ""
            has_brackets = kind == "fun" and (around == "tuple" or (around == "fun" and path[-1] == 0)) or (
                kind == "tuple" and around == "tuple")
            if kind != "fun" or has_brackets:
                self.assertEqual(text.startswith("("), has_brackets or path == (0,))

    def test_large_types(self):
        big = towers(300)
        half = 7 * 2 ** 299 - 5
        self.assertEqual(span(big, (0,)), (0, half))
        self.assertEqual(span(big, (1,)), (half + 3, 2 * half + 3))
        self.assertEqual(span(big, (1,) * 300), (text_length(big) - 301, text_length(big) - 299))
        self.assertEqual(span(big, (0,) * 300), (299, 301))
        self.assertEqual(path_over(big, half + 3), (1,))
        self.assertEqual(path_over(big, half + 4), (1, 0))
        self.assertEqual(path_over(big, half + 1), ())
        self.assertEqual(path_over(big, 298), (0,) * 299)
        self.assertEqual(path_over(big, 299), (0,) * 300)
        self.assertEqual(path_over(big, 301), (0,) * 299)

    def test_blanks_and_signs_of_records(self):
        big = of("{x: int, y: {| 'a} | 'b}")
        expected = [()] * 4 + [(0,)] * 3 + [()] * 5 + [(1,)] * 6 + [()] * 6
        self.assertEqual([path_over(big, k=k) for k in range(24)], expected)

    def test_wrong_paths(self):
        for big in (of("int * (int -> {x: int})"), towers(300)):
            for path in [(2,), (-1,), (0,) * 301, (True,), (0, True), (None,), ("0",), ([],), [], [0], "", "0", 0,
                         nested(2000, lambda value: (value,), 0)[0]] + other_values():
                with self.assertRaises(InvalidPath) as caught:
                    span(big, path)
                self.assertTrue(caught.exception.path is path)


def has_long_names(text):
    """Tell whether a name in a text has more than one letter, so that parts have shorter texts as types alone."""
    return any(text[k + 1:k + 3].isalpha() and len(text[k + 1:k + 3]) == 2 for k in range(len(text)) if text[k] == "'")


class Largest(unittest.TestCase):
    def test_deep_types(self):
        pair = of("'a -> 'a * 'a")
        big = used_often(pair, 599, towers(400))
        self.assertEqual(big.node_total(), 1000)
        length = text_length(big)
        self.assertEqual(length, 7 * 2 ** 999 - 7)
        self.assertEqual(window(big, length - 1000, 1000), "'a" + ")" * 998)
        self.assertEqual(span(big, (1,) * 999), (length - 1000, length - 998))
        self.assertEqual(path_over(big, 998), (0,) * 999)
        for k in range(0, 200):
            self.assertEqual(len(sign_at(big, length * k // 200)), 1)

    def test_long_types(self):
        big = used_often(of("'a -> int -> 'a"), 990, vast(V0))
        self.assertEqual(text_length(big), 7 * 990 + 2)
        self.assertEqual(window(big, 7 * 990 - 7, 20), "int -> 'a")
        self.assertEqual(span(big, (1,) * 990), (7 * 990, 7 * 990 + 2))
        self.assertEqual(path_over(big, 7 * 990 - 1), (1,) * 989)

    def test_arguments_stay(self):
        big, path = of("('a * 'b) * {x: 'a | 'c}"), (0, 1)
        for _ in range(2):
            text_length(big), sign_at(big, 3), window(big, 1, 5), span(big, path), path_over(big, 3)
        self.assertTrue(big == of("('a * 'b) * {x: 'a | 'c}"))
        self.assertEqual(big.variables(), [("var", 2), ("var", 1), ("tail", 1)])

    def test_large_trees(self):
        for tree in (sized_tree(1000), tree_under(99, V1), ("record", [(name, INT) for name in many_names(400)], 0)):
            text, big = tree_text(tree), vast(tree)
            self.assertEqual(text_length(big), len(text))
            pieces = [window(big, first, 1000) for first in range(0, len(text) + 1, 1000)]
            self.assertEqual("".join(pieces), text)


class Places(unittest.TestCase):
    def test_places(self):
        for name in ("text_length", "sign_at", "window", "span", "path_over"):
            self.assertEqual(getattr(signs, name).__module__, "vasttypes.signs")


if __name__ == "__main__":
    unittest.main()
