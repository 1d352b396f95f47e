"""Points 14 to 17: types as graphs."""

import random
import unittest

from samples import (BOOL, INT, V0, V1, V2, fault, many_names, nested, no_integers, no_names, other_values,
                     parts_of_tree, random_tree, sized_tree, tree_under, trees_within)
from vasttypes import graphs
from vasttypes.errors import InvalidBound, InvalidPath, InvalidTree, LimitExceeded
from vasttypes.graphs import Vast, made, towers, vast
from vasttypes.terms import check_term
from vasttypes.trees import check_tree, renumbered, substituted
from vasttypes.treetexts import read_tree, tree_text


def record(fields, tail=None):
    return ("record", fields, tail)


def of(text):
    return vast(read_tree(text))


def pair():
    return vast(("fun", V0, ("tuple", [V0, V0])))


def random_trees(count, seed, levels=4):
    source = random.Random(seed)
    found = [random_tree(source, levels) for _ in range(count)]
    return [tree for tree in found if fault(check_tree, tree) is None]


def counted_marks(tree):
    """Return what variables() must return, from the tree."""
    found = {}
    for word, mark in marks_in_order(renumbered(tree)):
        found[mark] = (word, found.get(mark, (word, 0))[1] + 1)
    return list(found.values())


def marks_in_order(tree):
    within = [pair for inner in trees_within(tree) for pair in marks_in_order(inner)]
    if tree[0] == "var":
        return [("var", tree[1])]
    return within + ([("tail", tree[2])] if tree[0] == "record" and tree[2] is not None else [])


def all_unlike(count):
    """Return the Vast of a record with so many fields, in each a function from int to a variable of its own."""
    return made("record", [made("fun", [vast(INT), vast(V0)])] * count, many_names(count))


class OfTrees(unittest.TestCase):
    def test_node_totals(self):
        for text, total in (("int", 1), ("'a", 1), ("{}", 1), ("{| 'a}", 1), ("int -> int", 2), ("int -> bool", 3),
                            ("'a -> 'b", 3), ("'a * 'a", 2), ("(int * 'a) * (int * 'b)", 6),
                            ("(int * 'a) * (int * 'a)", 4), ("{x: int | 'a} * {x: int | 'b}", 4),
                            ("{x: int | 'a} * {x: int | 'a}", 3), ("{x: int | 'a} * {x: int}", 4),
                            ("{x: int} * {y: int}", 4), ("int * int -> (int * int) * int", 4)):
            self.assertEqual(of(text).node_total(), total, text)

    def test_random_trees(self):
        for tree in random_trees(200, 1):
            big = vast(tree)
            within = [repr(part) for _, part in parts_of_tree(tree)]
            self.assertEqual(big.node_total(), len(set(within)))
            self.assertEqual(big.tree_size(), len(within))
            self.assertEqual(big.height(), 1 + max([len(path) for path, _ in parts_of_tree(tree)]))
            self.assertEqual(repr(big.tree()), repr(renumbered(tree)))
            self.assertEqual(big.variables(), counted_marks(tree))
            self.assertEqual(big.kind(), tree[0])
            self.assertEqual(big.labels(), [name for name, _ in tree[1]] if tree[0] == "record" else [])
            self.assertEqual([part.tree() for part in big.parts()], [renumbered(part) for part in trees_within(tree)])
            for path, part in parts_of_tree(tree):
                self.assertEqual(repr(big.part(path).tree()), repr(renumbered(part)))

    def test_largest_trees(self):
        self.assertEqual(vast(sized_tree(1000)).tree(), sized_tree(1000))
        self.assertEqual(vast(tree_under(99, V0)).tree(), tree_under(99, V0))
        tree = record([(name, ("var", 998 - k)) for k, name in enumerate(many_names(400))], 999)
        self.assertEqual(vast(tree).tree(), renumbered(tree))
        self.assertEqual(vast(tree).node_total(), 401)

    def test_errors_of_trees(self):
        for tree, expected in ((("fun", INT, None), (InvalidTree, (1,))), (sized_tree(1001), (LimitExceeded, 1000)),
                               (tree_under(100, INT), (LimitExceeded, 100)),
                               (nested(2000, lambda value: ("fun", INT, value), INT), (LimitExceeded, 100))):
            self.assertEqual(fault(vast, tree), expected)

    def test_later_changes(self):
        fields, items = [("x", INT)], [V0, V1]
        tree = ("fun", record(fields), ("tuple", items))
        before = repr(tree)
        big, same = vast(tree), vast(tree=tree)
        self.assertEqual(repr(tree), before)
        fields.append(("y", INT))
        items[1] = INT
        self.assertEqual(tree_text(big.tree()), "{x: int} -> 'a * 'b")
        self.assertTrue(big == same)
        self.assertFalse(big == vast(tree))


class Equality(unittest.TestCase):
    def test_by_texts(self):
        trees = random_trees(60, 2, 3) + random_trees(60, 2, 3)
        trees += [renumbered(tree) for tree in trees[:20]]
        bigs = [vast(tree) for tree in trees]
        texts = [tree_text(tree) for tree in trees]
        for big, text in zip(bigs, texts):
            for other, match in zip(bigs, texts):
                self.assertIs(big == other, text == match)
                self.assertIs(big != other, text != match)

    def test_names_mean_nothing(self):
        self.assertTrue(vast(("fun", ("var", 5), ("var", 3))) == vast(("fun", V0, V1)))
        self.assertFalse(vast(("fun", V0, V0)) == vast(("fun", V0, V1)))
        self.assertFalse(vast(record([], 0)) == vast(record([])))
        self.assertFalse(vast(("fun", record([], 0), record([], 0))) == vast(("fun", record([], 0), record([], 1))))
        self.assertFalse(of("{x: int}") == of("{y: int}"))
        self.assertFalse(of("'a * int") == of("int * 'a"))

    def test_large_types(self):
        self.assertTrue(towers(400) == towers(400))
        self.assertFalse(towers(400) == towers(399))
        self.assertTrue(made("tuple", towers(400).parts()) != towers(400))

    def test_other_values(self):
        class Anything:
            def __eq__(self, other):
                return True

        for big in (vast(INT), vast(V0), towers(3)):
            for value in [0, 1, "int", INT, V0, [], (), [INT], big.tree(), [big], (big,)] + other_values():
                self.assertIs(big == value, False)
                self.assertIs(big != value, True)
            self.assertFalse(big == Anything())


class Sizes(unittest.TestCase):
    def test_pair(self):
        self.assertEqual((pair().variables(), pair().tree_size(), pair().height(), pair().node_total()),
                         ([("var", 3)], 5, 3, 3))

    def test_variables(self):
        for text, expected in (("int", []), ("{}", []), ("'a", [("var", 1)]), ("{| 'a}", [("tail", 1)]),
                               ("{x: 'a | 'b} -> {x: 'c | 'b} -> 'a", [("var", 2), ("tail", 2), ("var", 1)]),
                               ("{x: {| 'a} | 'b} -> {| 'a}", [("tail", 2), ("tail", 1)])):
            self.assertEqual(of(text).variables(), expected)

    def test_variables_of_large_types(self):
        big = made("record", [towers(300), towers(7)], ("a", "b"), True)
        self.assertEqual(big.variables(), [("var", 2 ** 300), ("var", 2 ** 7), ("tail", 1)])
        self.assertEqual(big.tree_size(), 2 ** 301 + 2 ** 8 - 1)
        self.assertEqual(big.height(), 302)

    def test_trees_that_are_too_large(self):
        self.assertEqual(fault(towers(300).tree), (LimitExceeded, 1000))
        self.assertEqual(fault(towers(9).tree), (LimitExceeded, 1000))
        self.assertEqual(len(parts_of_tree(towers(8).tree())), 511)
        deep = vast(tree_under(99, INT))
        self.assertEqual(fault(made("fun", [vast(INT), deep]).tree), (LimitExceeded, 100))
        self.assertEqual(fault(made("tuple", [deep] * 6).tree), (LimitExceeded, 1000))
        wide = made("record", [vast(sized_tree(333))] * 3, ["a", "b", "c"])
        self.assertEqual(len(parts_of_tree(wide.tree())), 1000)
        self.assertEqual(fault(made("record", [vast(sized_tree(333))] * 2 + [vast(sized_tree(334))],
                                    ["a", "b", "c"]).tree), (LimitExceeded, 1000))

    def test_lists_of_trees_are_new(self):
        tree = towers(2).tree()
        tree[1][0][1].clear()
        self.assertEqual(tree[1][1], ("tuple", [V0, V0]))
        big = of("{x: 'a * 'b}")
        big.tree()[1].clear()
        big.labels().clear()
        big.variables().clear()
        big.parts().clear()
        self.assertEqual((big.tree(), big.labels(), big.variables(), len(big.parts())),
                         (record([("x", ("tuple", [V0, V1]))]), ["x"], [("var", 1), ("var", 1)], 1))


class Parts(unittest.TestCase):
    def test_kinds(self):
        for text, word in (("int", "int"), ("bool", "bool"), ("'a", "var"), ("'a -> 'a", "fun"),
                           ("'a * 'a -> int", "fun"), ("'a * 'a", "tuple"), ("{}", "record"), ("{| 'a}", "record")):
            self.assertEqual(of(text).kind(), word)

    def test_parts_are_types_of_their_own(self):
        big = of("'a * ('b -> 'a) * {x: 'c, y: 'b | 'd}")
        self.assertEqual([tree_text(part.tree()) for part in big.parts()],
                         ["'a", "'a -> 'b", "{x: 'a, y: 'b | 'c}"])
        self.assertEqual(big.part(()), big)
        self.assertEqual(big.part((2,)).labels(), ["x", "y"])
        self.assertTrue(pair().part((1, 0)) == vast(("var", 5)))
        self.assertEqual(pair().part(path=(1,)), towers(1))
        self.assertEqual([vast(INT).parts(), vast(V0).parts(), vast(record([])).parts()], [[], [], []])

    def test_order_within_a_part(self):
        # In the part what is named first in the whole comes last.
        big = of("('a -> 'b) -> ('b -> int) * ('a -> bool) -> (int -> 'b) * ('a -> bool)")
        self.assertTrue(big.part((1, 1)) == of("(int -> 'a) * ('b -> bool)"))
        self.assertTrue(big.part((1, 1, 0)) == of("int -> 'a"))

    def test_long_paths(self):
        big = towers(400)
        self.assertEqual(big.part((0, 1) * 200), towers(0))
        self.assertEqual(big.part((1,) * 100), towers(300))
        self.assertEqual(fault(big.part, (0,) * 401), (InvalidPath, (0,) * 401))

    def test_wrong_paths(self):
        big = of("int * {x: 'a} * ('a -> bool)")
        for path in [(3,), (-1,), (0, 0), (1, 1), (1, 0, 0), (2, 2), (10 ** 40,), (True,), (False,), (1, False), ("0",),
                     (None,), ((0,),), ([],), ("x",), (1, "x"), ({},), [], [0], "", "0", 0, 1] + other_values():
            self.assertEqual(fault(big.part, path), (InvalidPath, path))
        for around in (lambda value: [value], lambda value: (value,)):
            for path in (nested(2000, around, 0), (0, nested(2000, around, 0))):
                with self.assertRaises(InvalidPath):
                    big.part(path)


class Made(unittest.TestCase):
    def test_each_word(self):
        for big, text in ((made("var", []), "'a"), (made("int", []), "int"), (made("bool", []), "bool"),
                          (made("fun", [of("'a"), of("'a")]), "'a -> 'b"),
                          (made("tuple", [vast(INT), of("'a * 'b"), of("'a")]), "int * ('a * 'b) * 'c"),
                          (made("record", []), "{}"), (made("record", [], (), True), "{| 'a}"),
                          (made("record", [of("{x: 'a | 'b}")], ["x"], True), "{x: {x: 'a | 'b} | 'c}"),
                          (made("record", [vast(INT), of("'a")], ("a", "b")), "{a: int, b: 'a}"),
                          (made("record", [vast(INT)], ["a"], is_open=False), "{a: int}"),
                          (made("fun", [of("{| 'a}"), of("{| 'a}")], []), "{| 'a} -> {| 'b}"),
                          (made(is_open=True, labels=("q",), parts=[vast(INT)], word="record"), "{q: int | 'a}")):
            self.assertEqual(tree_text(big.tree()), text)

    def test_variables_are_unlike(self):
        one = towers(1)
        two = made("tuple", [one, one])
        self.assertFalse(two == towers(2))
        self.assertEqual((two.variables(), two.node_total()), ([("var", 2), ("var", 2)], 5))
        self.assertEqual(made("tuple", [vast(INT), vast(INT)]).node_total(), 2)
        self.assertEqual(two.parts(), [one, one])

    def test_like_trees(self):
        for tree in random_trees(100, 3, 3):
            if tree[0] in ("fun", "tuple"):
                inner = [substituted(part, {}) for part in trees_within(tree)]
                big = made(tree[0], [vast(part) for part in inner])
                self.assertEqual(big.parts(), vast(tree).parts())
                self.assertEqual(big.tree_size(), vast(tree).tree_size())
                self.assertEqual(len(big.variables()), sum([len(vast(part).variables()) for part in inner]))

    def test_wrong_words(self):
        for word in ["", "Int", "app", "variable", 0, None, True, [], ["int"], ("int",), INT, b"int"] + other_values():
            self.assertEqual(fault(made, word, []), (InvalidBound, "word"))

    def test_wrong_parts(self):
        one = vast(INT)
        right = {"var": [0], "int": [0], "bool": [0], "fun": [2], "tuple": [2, 3, 4, 5, 6], "record": [0, 1, 400]}
        for word, counts in right.items():
            for count in (0, 1, 2, 3, 4, 5, 6, 7, 400, 401):
                labels = many_names(count) if word == "record" else ()
                found = fault(made, word, [one] * count, labels)
                self.assertEqual(found, None if count in counts or (word == "record" and count < 401)
                                 else (InvalidBound, "parts"), (word, count))
            for parts in [None, (), (one, one), [one, None], [one, INT], [one, "int"], [[one], one], {0: one}, 7, "",
                          one] + other_values():
                self.assertEqual(fault(made, word, parts, ("a", "b")), (InvalidBound, "parts"))
        self.assertEqual(fault(made, "fun", nested(2000, lambda value: [value], 0)), (InvalidBound, "parts"))

    def test_wrong_labels(self):
        one = vast(INT)
        for labels in [["a"], ["a", "b", "c"], ["b", "a"], ["a", "a"], [], (), "ab", ["a", None], ["a", 1], {"a", "b"},
                       {"a": 1, "b": 2}, None, 0, ["a", "B"], [["a"], "b"], nested(2000, lambda value: [value])
                       ] + other_values():
            self.assertEqual(fault(made, "record", [one, one], labels), (InvalidBound, "labels"))
        for name in no_names():
            self.assertEqual(fault(made, "record", [one], [name]), (InvalidBound, "labels"))
        for word, parts in (("var", []), ("int", []), ("fun", [one, one]), ("tuple", [one, one])):
            for labels in [["a"], ("a", "b"), "", "ab", None, 0, {}, {"a": 1}, [None]] + other_values():
                self.assertEqual(fault(made, word, parts, labels), (InvalidBound, "labels"))
            self.assertIsNone(fault(made, word, parts, []))

    def test_wrong_is_open(self):
        one = vast(INT)
        for value in [0, 1, "", "x", [], X_OPEN] + other_values():
            self.assertEqual(fault(made, "record", [one], ["a"], value), (InvalidBound, "is_open"))
            self.assertEqual(fault(made, "fun", [one, one], [], value), (InvalidBound, "is_open"))
        for word, parts in (("var", []), ("int", []), ("fun", [one, one]), ("tuple", [one, one])):
            self.assertEqual(fault(made, word, parts, (), True), (InvalidBound, "is_open"))

    def test_order_of_the_arguments(self):
        self.assertEqual(fault(made, "x", None, None, None), (InvalidBound, "word"))
        self.assertEqual(fault(made, "record", None, None, None), (InvalidBound, "parts"))
        self.assertEqual(fault(made, "record", [], None, None), (InvalidBound, "labels"))
        self.assertEqual(fault(made, "record", [], [], None), (InvalidBound, "is_open"))
        self.assertEqual(fault(made, "tuple", [all_unlike(400)] * 2, ["a"], True), (InvalidBound, "labels"))
        self.assertEqual(fault(made, "tuple", [all_unlike(400)] * 2, [], True), (InvalidBound, "is_open"))

    def test_limit(self):
        self.assertEqual(all_unlike(332).node_total(), 666)
        self.assertEqual(made("tuple", [all_unlike(332), towers(331)]).node_total(), 999)
        self.assertEqual(made("tuple", [all_unlike(332), towers(332)]).node_total(), 1000)
        self.assertEqual(fault(made, "tuple", [all_unlike(332), towers(333)]), (LimitExceeded, 1000))
        self.assertEqual(fault(made, "fun", [towers(400), all_unlike(300)]), (LimitExceeded, 1000))
        wide = made("tuple", [towers(400), towers(400), towers(195)])
        self.assertEqual(wide.node_total(), 999)
        self.assertEqual(made("fun", [vast(INT), vast(INT)]).node_total(), 2)
        self.assertEqual(fault(made, "fun", [wide, vast(INT)]), (LimitExceeded, 1000))
        self.assertEqual(fault(made, "fun", [wide, wide]), (LimitExceeded, 1000))

    def test_arguments_stay(self):
        parts, labels = [towers(1), vast(INT)], ["a", "b"]
        big = made("record", parts, labels)
        self.assertEqual((parts, labels), ([towers(1), vast(INT)], ["a", "b"]))
        parts[0] = vast(BOOL)
        labels[0] = "aa"
        self.assertEqual(tree_text(big.tree()), "{a: 'a * 'a, b: int}")
        self.assertEqual(towers(1).variables(), [("var", 2)])


X_OPEN = ("var", "x")


class Towers(unittest.TestCase):
    def test_all(self):
        for n in range(401):
            big = towers(n)
            self.assertEqual((big.node_total(), big.tree_size(), big.height()), (n + 1, 2 ** (n + 1) - 1, n + 1))
            self.assertEqual(big.variables(), [("var", 2 ** n)])
            self.assertEqual(big.kind(), "tuple" if n else "var")

    def test_parts(self):
        self.assertEqual(towers(0), vast(V0))
        self.assertEqual(towers(n=1), vast(("tuple", [V2, V2])))
        self.assertEqual(towers(2), of("('a * 'a) * ('a * 'a)"))
        for n in (1, 2, 5, 300, 400):
            self.assertEqual(towers(n).parts(), [towers(n - 1)] * 2)
        self.assertEqual(vast(towers(8).tree()), towers(8))

    def test_wrong_numbers(self):
        for n in [-1, 401, 10 ** 30, -10 ** 30] + no_integers():
            self.assertEqual(fault(towers, n), (InvalidBound, "n"))


class Places(unittest.TestCase):
    def test_places(self):
        for name in ("Vast", "vast", "made", "towers"):
            self.assertEqual(getattr(graphs, name).__module__, "vasttypes.graphs")
        for name in ("node_total", "tree_size", "height", "tree", "variables", "kind", "labels", "parts", "part"):
            self.assertIn(name, vars(Vast))
        self.assertIsInstance(towers(1), Vast)
        self.assertEqual(fault(check_term, towers(1))[1], ())


if __name__ == "__main__":
    unittest.main()
