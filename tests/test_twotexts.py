"""Points 32 to 34: two texts, where they differ and which is less."""

import os
import random
import unittest

from samples import INT, V0, fault, many_names, of, other_values, parts_of_tree, random_tree, used_often
from vasttypes import twotexts
from vasttypes.errors import InvalidBound, InvalidPath
from vasttypes.graphs import made, towers, vast
from vasttypes.signs import sign_at, span, text_length, window
from vasttypes.trees import check_tree
from vasttypes.treetexts import tree_text
from vasttypes.twotexts import agreeing, compared, first_difference, ranked

TEXTS = ["int", "bool", "'a", "{}", "{| 'a}", "{x: int}", "{x: int | 'a}", "{x: int, y: int}", "{x: bool}", "{xx: int}",
         "int -> bool", "int -> int", "int -> int -> int", "(int -> int) -> int", "int * int", "int * int -> int",
         "int * int * int", "(int * int) * int", "int * (int * int)", "int * (int -> int)", "(int -> int) * int",
         "(int -> int) * int -> int", "((int -> int) -> int) -> int", "(int * int -> int) -> int", "'a * 'a", "'a * 'b",
         "'a -> 'a", "'a -> 'b", "('a -> 'b) -> 'b", "('a -> 'b) -> 'a", "{x: {x: int}}", "{x: {x: int}, y: int}",
         "{x: {x: int | 'a} | 'b}", "{x: {| 'a} | 'b}", "{x: int -> int}", "{x: int -> int -> int}", "{y: int}",
         "(int -> int) -> int -> int", "((int -> int) -> int) * int", "((int * int) * int) * int"]


def shared(one, other):
    """Return how many signs two strings have in common from their beginnings on."""
    return len(os.path.commonprefix([one, other]))


def difference(one, other):
    return None if one == other else shared(one, other)


def random_types(count, seed, levels=4):
    source = random.Random(seed)
    trees = [random_tree(source, levels, source.choice([1, 2, 40])) for _ in range(count)]
    return [vast(tree) for tree in trees if fault(check_tree, tree) is None]


def changed(tree, path, new):
    """Return a tree with another one at a path."""
    if not path:
        return new
    if tree[0] == "record":
        fields = [(name, changed(inner, path[1:], new) if k == path[0] else inner)
                  for k, (name, inner) in enumerate(tree[1])]
        return ("record", fields, tree[2])
    inner = list(tree[1]) if tree[0] == "tuple" else list(tree[1:])
    inner[path[0]] = changed(inner[path[0]], path[1:], new)
    return ("tuple", inner) if tree[0] == "tuple" else (tree[0], *inner)


class Differences(unittest.TestCase):
    def check(self, one, other, text, match):
        self.assertEqual(first_difference(one, other), difference(text, match), (text, match))
        self.assertEqual(compared(one, other), (text > match) - (text < match), (text, match))

    def test_small_types(self):
        pairs = [(of(text), text) for text in TEXTS]
        for one, text in pairs:
            for other, match in pairs:
                self.check(one, other, text, match)

    def test_random_types(self):
        pairs = [(big, tree_text(big.tree())) for big in random_types(90, 1, 3)]
        for one, text in pairs:
            for other, match in pairs:
                self.check(one, other, text, match)

    def test_types_that_differ_at_one_place(self):
        source = random.Random(2)
        for big in random_types(150, 3, 5):
            tree = big.tree()
            for path, _ in source.sample(parts_of_tree(tree), min(6, big.tree_size())):
                new = changed(tree, path, source.choice([INT, V0, ("var", 700), ("fun", INT, V0), ("tuple", [INT, INT]),
                                                         ("record", [], None), ("record", [("x", V0)], 900)]))
                if fault(check_tree, new) is None:
                    self.check(big, vast(new), tree_text(tree), tree_text(new))
                    self.check(vast(new), big, tree_text(new), tree_text(tree))

    def test_names_of_many_letters(self):
        trees = [("tuple", [("record", [(name, ("var", k)) for k, name in enumerate(many_names(many))], None),
                            ("tuple", [("var", last), INT])])
                 for many in (26, 27, 28) for last in (0, 5, 25, 26, 27, 29)]
        for tree in trees:
            for other in trees:
                self.check(vast(tree), vast(other), tree_text(tree), tree_text(other))


class Vast(unittest.TestCase):
    def test_towers(self):
        for n in range(0, 400, 7):
            self.assertEqual(first_difference(towers(n), towers(n + 1)), n - 1 if n else 2)
            self.assertEqual(compared(towers(n), towers(n + 1)), -1)
            self.assertEqual(compared(towers(n + 1), towers(n)), 1)
            self.assertIsNone(first_difference(towers(n), towers(n)))
            self.assertEqual(compared(towers(n), towers(n)), 0)

    def test_differences_far_in(self):
        grow = of("'a -> 'a * 'a")
        for text, match, where in (("{x: int, y: 'a}", "{x: int, z: 'a}", 9), ("'a * 'b -> 'a", "'a * 'b -> 'b", 12)):
            one, other = used_often(grow, 90, of(text)), used_often(grow, 90, of(match))
            first, _ = span(one, (0,) * 90)
            self.assertEqual(first_difference(one, other), first + where + (text[0] == "'"))
            # The same behind a part that is equal in both types.
            tall = towers(300)
            pair, mate = made("tuple", [tall, one]), made("tuple", [tall, other])
            begin, _ = span(pair, (1,))
            found = first_difference(pair, mate)
            self.assertGreater(begin, 10 ** 80)
            self.assertEqual(found, span(pair, (1,) + (0,) * 90)[0] + where + (text[0] == "'"))
            self.assertEqual(compared(pair, mate), -1 if sign_at(pair, found) < sign_at(mate, found) else 1)

    def test_last_variable(self):
        one = made("tuple", [towers(390), towers(0)])
        other = vast(V0)
        for _ in range(390):
            other = used_often(of("'a -> 'a * 'a"), 1, other)
        other = used_often(of("'a -> 'a * int"), 1, other)
        self.assertEqual(first_difference(one, other), text_length(other) - 3)
        self.assertEqual(compared(one, other), -1)

    def test_agreement_with_windows(self):
        source = random.Random(4)
        grow = [of("'a * 'b -> 'b * ('a * 'b)"), of("'a * 'b -> ('a -> 'b) * 'b"), of("'a * 'b -> {x: 'a} * ('a * 'b)"),
                of("'a * 'b -> ('b * 'b) * 'a")]
        bigs = []
        for _ in range(25):
            big = of("'a * int")
            for _ in range(source.randint(30, 60)):
                big = used_often(source.choice(grow), 1, big)
            bigs.append(big)
        for one in bigs:
            for other in bigs[:12]:
                found = first_difference(one, other)
                if found is not None:
                    self.assertEqual(window(one, max(found - 500, 0), min(found, 500)),
                                     window(other, max(found - 500, 0), min(found, 500)))
                    self.assertNotEqual(window(one, found, 1), window(other, found, 1))
                    self.assertEqual(compared(one, other), -1 if window(one, found, 1) < window(other, found, 1) else 1)


class Agreeing(unittest.TestCase):
    def spans(self, big):
        text = tree_text(big.tree())
        return [(path, text[slice(*span(big, path))]) for path, _ in parts_of_tree(big.tree())]

    def test_all_pairs(self):
        bigs = [of(text) for text in ("('a -> 'b) * ('a -> 'c) * 'b", "{x: 'a -> 'b, y: ('a -> 'b) -> 'a | 'c}",
                                      "((int -> int) -> int) -> (int -> int) * int * (int * int)")]
        bigs += random_types(25, 5)
        for number, one in enumerate(bigs):
            for other in [one] + bigs[max(number - 2, 0):number]:
                for path, text in self.spans(one):
                    for way, match in self.spans(other):
                        self.assertEqual(agreeing(one, path, other, way), shared(text, match), (text, match))

    def test_towers(self):
        big = towers(300)
        self.assertEqual(agreeing(big, (0,), big, (1,)), 7 * 2 ** 299 - 5)
        self.assertEqual(agreeing(big, (), big, ()), 7 * 2 ** 300 - 7)
        self.assertEqual(agreeing(big, (), big, (0,)), 7 * 2 ** 299 - 5)
        self.assertEqual(agreeing(big, (0, 1), big, (1,)), 298)
        self.assertEqual(agreeing(one=big, path=(1, 0), way=(0,), other=towers(299)), 7 * 2 ** 298 - 5)
        self.assertEqual(agreeing(big, (1, 0), towers(298), ()), 297)

    def test_wrong_paths(self):
        for big in (towers(2), towers(300)):
            for path in [(0,) * 301, (2,), (-1,), (True,), [], [0], None, "0", 0] + other_values():
                for way in ((), (2,), None, []):
                    with self.assertRaises(InvalidPath) as caught:
                        agreeing(big, path, big, way)
                    self.assertTrue(caught.exception.path is path)
                with self.assertRaises(InvalidPath) as caught:
                    agreeing(big, (0,), big, path)
                self.assertTrue(caught.exception.path is path)


class Ranked(unittest.TestCase):
    def test_small_types(self):
        source = random.Random(6)
        bigs = [of(text) for text in TEXTS] + random_types(60, 7, 3)
        for many in (0, 1, 2, 5, 40, 90, 90, 90):
            chosen = source.sample(bigs, many)
            chosen += [made(big.kind(), big.parts(), big.labels()) for big in chosen[:3] if big.variables() == []]
            source.shuffle(chosen)
            texts = [tree_text(big.tree()) for big in chosen]
            expected = sorted(range(len(chosen)), key=lambda k: (texts[k], k))
            self.assertEqual(ranked(chosen), expected)

    def test_towers(self):
        self.assertEqual(ranked(bigs=[towers(2), towers(0), towers(1), towers(0)]), [1, 3, 2, 0])
        self.assertEqual(ranked([towers(n) for n in range(400, 0, -1)]), list(range(399, -1, -1)))
        self.assertEqual(ranked([]), [])
        self.assertEqual(ranked([towers(300)] * 200), list(range(200)))

    def test_wrong_lists(self):
        big = towers(2)
        for bigs in [(big,), (), big, {big.kind(): big}, [big, None], [None], [big, [big]], "x", None, 1,
                     [big, V0]] + other_values():
            self.assertEqual(fault(ranked, bigs), (InvalidBound, "bigs"))

    def test_arguments_stay(self):
        bigs = [towers(3), towers(1)]
        kept = list(bigs)
        found = ranked(bigs)
        found.append(7)
        self.assertEqual([ranked(bigs), bigs], [[1, 0], kept])


class Largest(unittest.TestCase):
    def test_deep_types(self):
        deep = used_often(of("'a -> 'a * 'a"), 598, towers(400))
        more = used_often(of("'a -> 'a * int"), 1, used_often(of("'a -> 'a * 'a"), 597, towers(400)))
        self.assertEqual(agreeing(deep, (0,), deep, (1,)), 7 * 2 ** 997 - 5)
        found = first_difference(deep, more)
        self.assertEqual(found, 7 * 2 ** 997 - 5 + 3)
        self.assertEqual(compared(deep, more), -1)
        for _ in range(150):
            self.assertEqual(first_difference(deep, more), found)
        right = used_often(of("'a -> int -> 'a"), 990, vast(V0))
        self.assertEqual(first_difference(right, used_often(of("'a -> int -> 'a"), 989, vast(V0))), 7 * 989)

    def test_places(self):
        for name in ("first_difference", "compared", "agreeing", "ranked"):
            self.assertEqual(getattr(twotexts, name).__module__, "vasttypes.twotexts")
        self.assertEqual([first_difference(other=towers(1), one=towers(0)), compared(other=towers(1), one=towers(0))],
                         [2, -1])


if __name__ == "__main__":
    unittest.main()
