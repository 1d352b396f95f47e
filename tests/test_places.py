"""Points 40 to 44: the parts within types, which are alike or the same, and their numbers."""

import random
import unittest

from plain import numbered
from samples import (INT, V0, fault, many_names, nested, no_integers, of, other_values, parts_of_tree, random_tree,
                     text_of, used_often)
from vasttypes import places
from vasttypes.errors import InvalidBound, InvalidPath
from vasttypes.graphs import made, towers, vast
from vasttypes.places import (alike_number, alike_parts, alike_path, alike_total, greatest_part, part_number,
                              path_below, path_of, same_number, same_path, same_total, widths)
from vasttypes.trees import check_tree

TEXTS = ["int", "'a", "{}", "{| 'a}", "('a -> 'b) -> 'b -> 'a", "('a * 'a) * ('b * 'b) * ('a * 'b)",
         "{x: {| 'a}, y: {| 'b}, z: {| 'a}} * {| 'a}", "{x: 'a, y: 'b | 'c} -> {x: 'b, y: 'a | 'c}",
         "{a: {x: 'a | 'b}, b: {x: 'a | 'c}, c: {x: 'd | 'b}, d: {x: 'a | 'b}}", "(int -> 'a) * (int -> 'b) * (int -> 'a)",
         "{x: int, y: int} * {x: int, z: int} * {x: int, y: int}"]

NO_PATHS = [[], [0], None, "0", 0, (True,), (0, True), (None,), ("0",), ([],), (-1,), (6,), {}, {0},
            nested(2000, lambda value: (value,), 0)] + other_values()


def random_types(count, seed, levels=4, variables=3):
    source = random.Random(seed)
    trees = [random_tree(source, levels, variables) for _ in range(count)]
    return [vast(tree) for tree in trees if fault(check_tree, tree) is None]


def small_types():
    return [of(text) for text in TEXTS] + random_types(60, 1)


class Walk:
    """The parts of a small type, as a plain walk over the tree finds them."""

    def __init__(self, big):
        self.parts = parts_of_tree(big.tree())
        self.alone = [repr(numbered(tree)) for _, tree in self.parts]
        self.within = [repr(tree) for _, tree in self.parts]
        self.paths = [path for path, _ in self.parts]

    def where(self, texts, text):
        return [path for path, held in zip(self.paths, texts) if held == text]


class Small(unittest.TestCase):
    def test_totals_and_paths_of_alike_parts(self):
        others = [of(text) for text in ("int", "'a", "'a -> 'b", "'a * 'b", "'a * 'a", "{| 'a}", "{x: 'a | 'b}", "{}")]
        for big in small_types():
            walk = Walk(big)
            for other in others + [big.part(path) for path in walk.paths[:6]]:
                found = walk.where(walk.alone, repr(other.tree()))
                self.assertEqual(alike_total(big, other), len(found))
                self.assertEqual([alike_path(big, other, k) for k in range(len(found))], found)
                for k in (-1, len(found), len(found) + 1):
                    self.assertEqual(fault(alike_path, big, other, k), (InvalidBound, "k"))

    def test_same_parts(self):
        for big in small_types():
            walk = Walk(big)
            for path, text in zip(walk.paths, walk.within):
                found = walk.where(walk.within, text)
                self.assertEqual(same_total(big, path), len(found))
                self.assertEqual([same_path(big, path, k) for k in range(len(found))], found)
                self.assertEqual(same_number(big, path), found.index(path))
                self.assertEqual(fault(same_path, big, path, len(found)), (InvalidBound, "k"))

    def test_numbers(self):
        for big in small_types():
            walk = Walk(big)
            for number, (path, text) in enumerate(zip(walk.paths, walk.alone)):
                self.assertEqual(part_number(big, path), number)
                self.assertEqual(path_of(big, number), path)
                self.assertEqual(alike_number(big, path), walk.where(walk.alone, text).index(path))
            for k in (-1, len(walk.paths), len(walk.paths) + 1):
                self.assertEqual(fault(path_of, big, k), (InvalidBound, "k"))

    def test_unlike_parts(self):
        for big in small_types():
            walk = Walk(big)
            firsts = list(dict.fromkeys(walk.alone))
            expected = [(text, walk.alone.count(text)) for text in firsts]
            self.assertEqual([(repr(part.tree()), count) for part, count in alike_parts(big)], expected)
            self.assertTrue(all(part == big.part(walk.paths[walk.alone.index(text)])
                                for (part, _), text in zip(alike_parts(big), firsts)))
            sizes = {text: len(parts_of_tree(tree)) for text, (_, tree) in zip(walk.alone, walk.parts)}
            for times in range(1, 9):
                often = [text for text, count in expected if count >= times]
                best = max(often, key=lambda text: sizes[text], default=None)
                found = greatest_part(big, times)
                self.assertEqual(None if found is None else repr(found.tree()), best)

    def test_levels(self):
        for big in small_types():
            walk = Walk(big)
            levels = [[path for path in walk.paths if len(path) == deep] for deep in range(big.height())]
            self.assertEqual(widths(big), [len(level) for level in levels])
            for deep, level in enumerate(levels):
                self.assertEqual([path_below(big, deep, k) for k in range(len(level))], level)
                for k in (-1, len(level)):
                    self.assertEqual(fault(path_below, big, deep, k), (InvalidBound, "k"))

    def test_alike_but_not_the_same(self):
        crossed = of("('a -> 'b) -> 'b -> 'a")
        self.assertEqual(alike_total(crossed, of("'a -> 'b")), 2)
        self.assertEqual([same_total(crossed, path) for path in ((), (0,), (1,), (0, 0), (1, 0))], [1, 1, 1, 2, 2])
        self.assertEqual(alike_total(of("('a -> 'a) -> 'b -> 'a"), of("'a -> 'b")), 1)
        self.assertEqual([(text_of(part), count) for part, count in alike_parts(crossed)],
                         [("('a -> 'b) -> 'b -> 'a", 1), ("'a -> 'b", 2), ("'a", 4)])
        tails = of("{x: {| 'a}, y: {| 'b}, z: {| 'a}}")
        self.assertEqual([alike_total(tails, of("{| 'a}")), same_total(tails, (0,)), same_total(tails, (1,))], [3, 2, 1])
        self.assertEqual([alike_total(tails, of(text)) for text in ("{}", "'a", "int", "{x: 'a | 'b}")], [0, 0, 0, 0])


class Vast(unittest.TestCase):
    def test_towers(self):
        big = towers(300)
        for k in (0, 1, 150, 299, 300):
            self.assertEqual(alike_total(big, towers(k)), 2 ** (300 - k))
            self.assertEqual(same_total(big, (1,) * (300 - k)), 2 ** (300 - k))
            if k < 300:
                self.assertEqual(path_of(big, 300 - k + 2 ** (k + 1) - 1), (0,) * (299 - k) + (1,))
            last = (1,) * (300 - k)
            self.assertEqual(alike_path(big, towers(k), 2 ** (300 - k) - 1), last)
            self.assertEqual(same_path(big, last, 0), (0,) * (300 - k))
            self.assertEqual([alike_number(big, last), same_number(big, last)], [2 ** (300 - k) - 1] * 2)
        self.assertEqual(alike_total(big, towers(301)), 0)
        self.assertEqual(widths(big), [2 ** k for k in range(301)])
        self.assertEqual(path_below(big, 300, 2 ** 300 - 1), (1,) * 300)
        self.assertEqual(path_below(big, 200, 2 ** 199), (1,) + (0,) * 199)
        parts = alike_parts(big)
        self.assertEqual([count for _, count in parts], [2 ** k for k in range(301)])
        self.assertTrue(all(part == towers(300 - k) for k, (part, _) in enumerate(parts)))
        for times, expected in ((1, 300), (2, 299), (3, 298), (4, 298), (5, 297), (2 ** 300, 0)):
            self.assertTrue(greatest_part(big, times) == towers(expected))
        self.assertIsNone(greatest_part(big, 2 ** 300 + 1))

    def test_paths_far_in(self):
        source = random.Random(2)
        steps = ["'a * 'b -> 'b * ('a * 'b)", "'a * 'b -> ('b -> 'a) * 'a", "'a * 'b -> {x: 'b, y: 'a} * {x: 'a, y: 'b}"]
        for _ in range(6):
            big = of("'a * {x: 'a | 'b}")
            for _ in range(200):
                big = used_often(of(source.choice(steps)), 1, big)
            size = big.tree_size()
            self.assertGreater(size, 10 ** 30)
            self.assertEqual(sum(widths(big)), size)
            for _ in range(12):
                k = source.randrange(size)
                path = path_of(big, k)
                self.assertEqual(part_number(big, path), k)
                self.assertEqual(path_of(big, part_number(big, path)), path)
                part = big.part(path)
                self.assertEqual(alike_path(big, part, alike_number(big, path)), path)
                self.assertEqual(same_path(big, path, same_number(big, path)), path)
                self.assertLessEqual(same_total(big, path), alike_total(big, part))
                deep = source.randrange(big.height())
                below = path_below(big, deep, source.randrange(widths(big)[deep]))
                self.assertEqual(len(below), deep)
            self.assertEqual(sum(count for _, count in alike_parts(big)), size)

    def test_many_variables(self):
        fields = [made("fun", [vast(V0), vast(INT)]) for _ in range(300)]
        big = made("record", fields, many_names(300))
        self.assertEqual(alike_total(big, of("'a -> int")), 300)
        self.assertEqual([same_total(big, (k,)) for k in (0, 299)], [1, 1])
        self.assertEqual(alike_path(big, of("'a -> int"), 17), (17,))
        self.assertEqual([count for _, count in alike_parts(big)], [1, 300, 300, 300])


class Wrong(unittest.TestCase):
    def test_paths(self):
        big, other = of("{x: int, y: 'a * 'b}"), towers(1)
        for function, more in ((same_total, ()), (part_number, ()), (same_path, (0,)), (same_path, (-1,)),
                               (same_path, (None,)), (alike_number, ()), (same_number, ())):
            for path in NO_PATHS + [(2,), (0, 0), (1, 2)]:
                with self.assertRaises(InvalidPath) as caught:
                    function(big, path, *more)
                self.assertTrue(caught.exception.path is path)
        self.assertEqual(alike_total(big, other), 0)

    def test_numbers(self):
        for big in (of("{x: int, y: 'a * 'b}"), towers(300)):
            for k in [-1, -10 ** 300] + no_integers():
                for call in (lambda: path_of(big, k), lambda: alike_path(big, towers(0), k),
                             lambda: same_path(big, (), k), lambda: path_below(big, 1, k)):
                    self.assertEqual(fault(call), (InvalidBound, "k"))
                self.assertEqual(fault(path_below, big, k, k), (InvalidBound, "deep"))
                self.assertEqual(fault(greatest_part, big, k), (InvalidBound, "times"))
            self.assertEqual(fault(greatest_part, big, 0), (InvalidBound, "times"))
            for k in (0, 1, 10 ** 300):
                self.assertEqual(fault(path_of, big, big.tree_size() + k), (InvalidBound, "k"))
                self.assertEqual(fault(path_below, big, big.height() + k, None), (InvalidBound, "deep"))
                self.assertEqual(fault(same_path, big, (), 1 + k), (InvalidBound, "k"))
                self.assertEqual(fault(alike_path, big, of("bool"), k), (InvalidBound, "k"))


class Largest(unittest.TestCase):
    def test_deep_types(self):
        for grow, many, root in (("'a -> 'a * 'a", 599, towers(400)), ("'a -> int -> 'a", 990, vast(V0)),
                                 ("'a -> 'a -> int", 990, vast(V0)), ("'a * 'b -> 'b * ('a * 'b)", 990, of("'a * 'b"))):
            big = used_often(of(grow), many, root)
            size = big.tree_size()
            for step in range(60):
                path = path_of(big, (size - 1) * step // 59)
                self.assertEqual(part_number(big, path), (size - 1) * step // 59)
                self.assertEqual(same_path(big, path, same_number(big, path)), path)
            self.assertEqual(sum(widths(big)), size)
            self.assertEqual(len(path_below(big, big.height() - 1, 0)), big.height() - 1)
            self.assertTrue(greatest_part(big, 1) == big)
            self.assertEqual(sum(count for _, count in alike_parts(big)), size)

    def test_many_calls(self):
        big, other = of("('a -> 'b) -> {x: 'b, y: 'a * 'a | 'c}"), of("'a")
        for k in range(500):
            self.assertEqual(alike_total(big, other), 5)
            self.assertEqual(alike_path(big, other, k % 5)[:1], (int(k % 5 > 1),))

    def test_results_are_new(self):
        big = of("('a * 'b) * ('b * 'a)")
        for function in (widths, alike_parts):
            function(big).clear()
            self.assertEqual(len(function(big)), 3)
        self.assertEqual(alike_parts(big)[1][1], 2)
        self.assertTrue(big == of("('a * 'b) * ('b * 'a)"))

    def test_names_of_arguments(self):
        big, one = of("'a * 'a"), of("'a")
        self.assertEqual([alike_total(other=one, big=big), same_total(path=(0,), big=big), part_number(path=(1,), big=big),
                          path_of(k=1, big=big), alike_path(k=1, other=one, big=big), same_path(k=1, path=(0,), big=big),
                          alike_number(path=(1,), big=big), same_number(path=(1,), big=big),
                          len(alike_parts(big=big)), greatest_part(times=2, big=big) == one, widths(big=big),
                          path_below(k=1, deep=1, big=big)],
                         [2, 2, 2, (0,), (1,), (1,), 1, 1, 2, True, [1, 2], (1,)])

    def test_places(self):
        for name in ("alike_total", "same_total", "part_number", "path_of", "alike_path", "same_path", "alike_number",
                     "same_number", "alike_parts", "greatest_part", "widths", "path_below"):
            self.assertEqual(getattr(places, name).__module__, "vasttypes.places")


if __name__ == "__main__":
    unittest.main()
