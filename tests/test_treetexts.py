"""Points 11 and 12: the texts of trees."""

import random
import unittest

from grammar import TREES, first_wrong
from samples import (BOOL, INT, V0, V1, V2, fault, many_names, nested, other_values, random_tree, sized_tree,
                     tree_under)
from vasttypes import treetexts
from vasttypes.errors import InvalidText, InvalidTree, LimitExceeded
from vasttypes.trees import renumbered
from vasttypes.treetexts import read_tree, tree_text


def record(fields, tail=None):
    return ("record", fields, tail)


FUN, PAIR = ("fun", INT, BOOL), ("tuple", [INT, BOOL])

# Trees with their texts, their marks numbered as in these.
TEXTS = [
    (INT, "int"),
    (BOOL, "bool"),
    (V0, "'a"),
    (FUN, "int -> bool"),
    (("fun", INT, FUN), "int -> int -> bool"),
    (("fun", FUN, INT), "(int -> bool) -> int"),
    (("fun", FUN, FUN), "(int -> bool) -> int -> bool"),
    (("fun", ("fun", FUN, INT), INT), "((int -> bool) -> int) -> int"),
    (("fun", PAIR, PAIR), "int * bool -> int * bool"),
    (("fun", ("tuple", [FUN, INT]), PAIR), "(int -> bool) * int -> int * bool"),
    (("fun", INT, ("tuple", [FUN, INT])), "int -> (int -> bool) * int"),
    (PAIR, "int * bool"),
    (("tuple", [PAIR, FUN, V0]), "(int * bool) * (int -> bool) * 'a"),
    (("tuple", [INT, PAIR]), "int * (int * bool)"),
    (("tuple", [INT, FUN]), "int * (int -> bool)"),
    (("tuple", [INT] * 6), "int * int * int * int * int * int"),
    (("tuple", [PAIR, PAIR]), "(int * bool) * (int * bool)"),
    (("tuple", [("tuple", [PAIR, INT]), INT]), "((int * bool) * int) * int"),
    (record([]), "{}"),
    (record([], 0), "{| 'a}"),
    (record([("x", INT)]), "{x: int}"),
    (record([("x", INT), ("yy", V0)]), "{x: int, yy: 'a}"),
    (record([("x", INT), ("yy", V0)], 1), "{x: int, yy: 'a | 'b}"),
    (record([("x", FUN), ("y", PAIR)]), "{x: int -> bool, y: int * bool}"),
    (record([("x", FUN), ("y", PAIR)], 0), "{x: int -> bool, y: int * bool | 'a}"),
    (record([("abcdefgh", record([("z", record([], 0))], 1))], 2), "{abcdefgh: {z: {| 'a} | 'b} | 'c}"),
    (("fun", record([], 0), record([], 0)), "{| 'a} -> {| 'a}"),
    (("tuple", [record([]), record([("x", INT)])]), "{} * {x: int}"),
    (("fun", V0, ("fun", V1, V0)), "'a -> 'b -> 'a"),
    (record([("b", INT), ("bool", BOOL), ("int", INT)]), "{b: int, bool: bool, int: int}"),
]


def wide(count):
    """Return a tree with so many variables, with up to 20 in a record, and these in a record."""
    groups = [list(range(count))[k:k + 20] for k in range(0, count, 20)]
    inner = [record([(name, ("var", k)) for name, k in zip(many_names(20), group)]) for group in groups]
    return record(list(zip(many_names(len(inner)), inner)))


class Written(unittest.TestCase):
    def test_each_kind(self):
        for tree, text in TEXTS:
            self.assertEqual(tree_text(tree), text)
        self.assertEqual(tree_text(tree=INT), "int")

    def test_names_in_the_order_of_the_text(self):
        self.assertEqual(tree_text(("fun", ("var", 7), ("fun", ("var", 3), ("var", 7)))), "'a -> 'b -> 'a")
        self.assertEqual(tree_text(("var", 999)), "'a")
        self.assertEqual(tree_text(record([("x", ("var", 9))], 2)), "{x: 'a | 'b}")
        self.assertEqual(tree_text(("tuple", [record([], 9), V1, record([], 9), V0])), "{| 'a} * 'b * {| 'a} * 'c")

    def test_many_names(self):
        text = tree_text(wide(900))
        for number, name in ((0, "'a"), (25, "'z"), (26, "'aa"), (27, "'ab"), (51, "'az"), (52, "'ba"), (77, "'bz"),
                             (701, "'zz"), (702, "'aaa"), (703, "'aab"), (727, "'aaz"), (728, "'aba"), (899, "'ahp")):
            label = many_names(20)[number % 20]
            self.assertTrue(f"{label}: {name}" + (", " if number % 20 < 19 else "}") in text, name)
        self.assertEqual(text.count("'zz,") + text.count("'zz}"), 1)
        self.assertEqual(read_tree(text), wide(900))

    def test_argument_stays(self):
        tree = record([("x", ("tuple", [("var", 5), INT]))], 7)
        before = repr(tree)
        tree_text(tree)
        self.assertEqual(repr(tree), before)


class Read(unittest.TestCase):
    def assert_wrong(self, text, sign):
        self.assertEqual(fault(read_tree, text), (InvalidText, sign), text)

    def test_each_kind(self):
        for tree, text in TEXTS:
            self.assertEqual(repr(read_tree(text)), repr(tree))
        self.assertEqual(read_tree(text="int"), INT)

    def test_what_was_written(self):
        source = random.Random(11)
        for _ in range(300):
            tree = random_tree(source, 5)
            if fault(tree_text, tree) is None:
                self.assertEqual(repr(read_tree(tree_text(tree))), repr(renumbered(tree)))
        for tree in (sized_tree(1000), tree_under(99, V0), record([(name, INT) for name in many_names(400)])):
            self.assertEqual(read_tree(tree_text(tree)), tree)

    def test_results_are_new(self):
        text = "{x: int * {}}"
        found = read_tree(text)
        found[1][0][1][1].clear()
        found[1].clear()
        self.assertEqual(read_tree(text), record([("x", ("tuple", [INT, record([])]))]))

    def test_no_strings(self):
        for value in [0, 1, True, INT, [], ["int"], ("int",)] + other_values():
            self.assert_wrong(value, -1)
        self.assert_wrong(nested(2000, lambda value: [value], "int"), -1)

    def test_signs_are_missing(self):
        for _, text in TEXTS:
            for many in range(len(text)):
                # What is a text up to there may be one, or may need what follows.
                expected = first_wrong(TREES, text[:many])
                found = fault(read_tree, text[:many])
                self.assertEqual(found, None if expected is None else (InvalidText, many))

    def test_brackets_that_need_not_be_there(self):
        for text, sign in (("(int) -> int", 4), ("(int)", 4), ("('a)", 3), ("({})", 3), ("int -> (int -> int)", 19),
                           ("(int -> int)", 12), ("(int * int)", 11), ("(int * int) -> int", 12),
                           ("int -> (int * int)", 18), ("((int -> int)) -> int", 13), ("((int * int)) * int", 12),
                           ("(int -> (int -> int)) -> int", 20), ("{x: (int -> int)}", 16), ("{x: (int * int)}", 15),
                           ("{x: (int * int), y: int}", 15), ("{x: (int -> int) | 'a}", 17),
                           ("{x: (int * int) | 'a}", 16), ("int * (int)", 10), ("(int * (int)) * int", 11),
                           ("(int * int) * int -> (int * int)", 32), ("(int -> int) | 'a", 13)):
            self.assert_wrong(text, sign)

    def test_examples_of_wrong_signs(self):
        for text, sign in (("", 0), (" ", 0), (" int", 0), ("int ", 4), ("int  -> int", 4), ("Int", 0), ("in", 2),
                           ("inte", 3), ("boo", 3), ("bolo", 2), ("int->int", 3), ("int - > int", 5), ("int * ", 6),
                           ("int *int", 5), ("int, int", 3), ("{", 1), ("{ }", 1), ("{|}", 2), ("{| }", 3),
                           ("{|'a}", 2), ("{| 'a|}", 5), ("{x}", 2), ("{x:int}", 3), ("{x : int}", 2),
                           ("{x: int,}", 8), ("{x: int, }", 9), ("{x: int | }", 10), ("{x: int |'a}", 9),
                           ("{x: int | 'a, y: int}", 12), ("{x: int| 'a}", 7), ("{X: int}", 1), ("{abcdefghi: int}", 9),
                           ("{abcdefgh: int, abcdefghi: int}", 24), ("'", 1), ("'A", 1), ("''", 1), ("'a'", 2),
                           ("'a1", 2), ("a", 0), ("'a b", 3), (")", 0), ("()", 1), ("int)", 3), ("(int -> int", 11),
                           ("(int -> int))", 12), ("{x: int})", 8), ("int\n", 3), ("int*int", 3), ("{x: int; y: int}", 7)):
            self.assert_wrong(text, sign)

    def test_against_the_grammar(self):
        source = random.Random(12)
        reached = 0
        for _ in range(700):
            text = tree_text(random_tree(source, 3))[:60]
            for _ in range(source.choice([1, 1, 2])):
                at = source.randrange(len(text) + 1)
                new = "".join(source.choices("(){}|,:'->* abintol", k=source.randint(0, 2)))
                text = text[:at] + new + text[at + source.randint(0, 2):]
            expected = first_wrong(TREES, text)
            found = fault(read_tree, text)
            if expected is None:
                self.assertTrue(found is None or found[0] is InvalidTree or "'" in text, text)
            else:
                self.assertEqual(found, (InvalidText, expected), text)
                reached += 1
        self.assertGreater(reached, 400)


class ReadButNoTrees(unittest.TestCase):
    def assert_no_tree(self, text, *path):
        self.assertEqual(fault(read_tree, text), (InvalidTree, path), text)

    def assert_limit(self, text, limit):
        self.assertEqual(fault(read_tree, text), (LimitExceeded, limit))

    def test_items_and_fields(self):
        self.assert_no_tree(" * ".join(["int"] * 7))
        self.assert_no_tree("int -> " + " * ".join(["int"] * 1000), 1)
        self.assert_no_tree("{b: int, a: int}")
        self.assert_no_tree("{a: int, a: int}")
        self.assert_no_tree("int -> {a: {b: int, a: int}}", 1, 0)
        self.assert_no_tree("{" + ", ".join([name + ": int" for name in many_names(401)]) + "}")

    def test_variables_and_tails(self):
        self.assert_no_tree("'a -> {| 'a}", 1)
        self.assert_no_tree("{x: 'a | 'a}", 0)
        self.assert_no_tree("{| 'a} -> {x: int | 'a}", 1)
        self.assert_no_tree("{x: int | 'a} * {y: int | 'a}", 1)
        self.assert_no_tree("{| 'a} -> 'a", 1)

    def test_limits(self):
        self.assert_limit("{" + ", ".join([f"{name}: int -> int -> int" for name in many_names(250)]) + "}", 1000)
        self.assert_limit("int -> " * 100 + "int", 100)
        self.assert_limit("{a: " * 100 + "int" + "}" * 100, 100)
        self.assertEqual(read_tree("int -> " * 99 + "int"), tree_under(99, INT))

    def test_deep_texts(self):
        for begin, end in (("{a: ", "}"), ("(int * ", " * int) * int"), ("(", " -> int) -> int"), ("int -> ", ""),
                           ("int * (", " -> int)"), ("{a: int -> ", "}")):
            self.assert_limit(begin * 2000 + "int -> int" + end * 2000, 100)
            self.assertEqual(fault(read_tree, begin * 2000), (InvalidText, len(begin) * 2000))
            self.assertEqual(fault(read_tree, begin * 2000 + "x"), (InvalidText, len(begin) * 2000))

    def test_names_that_are_not_the_next_one(self):
        for text, sign in (("'b", 0), ("'a -> 'c", 6), ("'b -> 'a", 0), ("'aa", 0), ("'a * 'b * 'd * 'c", 10),
                           ("{x: 'b | 'a}", 4), ("{x: 'a | 'c}", 9), ("{| 'b}", 3), ("'a -> {| 'c} -> 'b", 9),
                           ("'a -> 'a -> 'c -> 'b", 12), ("'zzzzzzzzzzzzzzz", 0), ("'a -> 'ab", 6),
                           ("{x: 'a, y: {z: 'c | 'b} | 'd}", 15)):
            self.assertEqual(fault(read_tree, text), (InvalidText, sign), text)

    def test_names_after_z(self):
        text = tree_text(wide(60))
        self.assertEqual(read_tree(text), wide(60))
        for before, after in (("'z,", "'aa,"), ("'aa,", "'z,"), ("'ba,", "'bb,")):
            wrong = text.replace(before, after, 1)
            found = fault(read_tree, wrong)
            if (before, after) == ("'aa,", "'z,"):
                # The variable before it once more; the next one is then not the next name.
                self.assertEqual(found, (InvalidText, wrong.index("'ab")))
            else:
                self.assertEqual(found, (InvalidText, wrong.index(after)))

    def test_errors_of_trees_come_before_names(self):
        self.assert_no_tree("'b -> {| 'b}", 1)
        self.assert_no_tree("'c * {y: int, x: 'a}", 1)
        self.assert_limit("'b -> " * 100 + "int", 100)

    def test_errors_of_the_text_come_before_both(self):
        for text, sign in (("'b -> {| 'b} }", 13), ("{b: 'c, a: int", 14), ("'a -> 'c)", 8)):
            self.assertEqual(fault(read_tree, text), (InvalidText, sign))


class Places(unittest.TestCase):
    def test_places(self):
        for name in ("tree_text", "read_tree"):
            self.assertEqual(getattr(treetexts, name).__module__, "vasttypes.treetexts")


if __name__ == "__main__":
    unittest.main()
