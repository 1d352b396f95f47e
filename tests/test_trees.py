"""Points 10 and 13: what a tree is, renumbered and substituted trees."""

import random
import unittest

from samples import (BOOL, INT, V0, V1, V2, fault, many_names, nested, no_integers, no_lists, no_names, other_values,
                     parts_of_tree, random_tree, sized_tree, tree_under)
from vasttypes import trees
from vasttypes.errors import InvalidBound, InvalidTree, LimitExceeded
from vasttypes.graphs import vast
from vasttypes.trees import check_tree, renumbered, substituted
from vasttypes.treetexts import tree_text

TAKE_TREES = [check_tree, renumbered, tree_text, vast, lambda tree: substituted(tree, {}),
              lambda tree: substituted(tree, None), lambda tree: substituted(tree, {0: None})]


def record(fields, tail=None):
    return ("record", fields, tail)


def every_kind():
    return ("fun", ("tuple", [V0, INT, record([("a", BOOL), ("b", V0)], 9)]),
            ("fun", record([], None), record([("a", ("var", 999)), ("b", record([]))], 9)))


def no_trees():
    """Return values that are no tuples of a kind of tree, whatever is within them."""
    return [0, 1, True, "", "int", "var", [], ["int"], (), ((),), (None,), (0,), ("x",), ("Int",), ("int", 1),
            ("int", None), ("bool", True), ("bool", ()), ("var",), ("var", 0, 0), ("fun", INT), ("fun", INT, INT, INT),
            ("fun",), ("tuple",), ("tuple", [INT, INT], None), ("record", []), ("record",), ("record", [], None, None),
            ("app", INT, INT), ("let", "x", INT, INT), ([], 0), ({}, 0), (["var"], 0), (INT, INT), (b"int",),
            ["fun", INT, INT], ("string",), ("list", INT)] + other_values()


class Check(unittest.TestCase):
    def assert_tree(self, value):
        self.assertIsNone(check_tree(value))

    def assert_wrong(self, value, path=()):
        for function in TAKE_TREES:
            self.assertEqual(fault(function, value), (InvalidTree, path), (function, value))

    def assert_limit(self, value, limit):
        for function in TAKE_TREES:
            self.assertEqual(fault(function, value), (LimitExceeded, limit))

    def test_each_kind(self):
        for tree in (INT, BOOL, V0, ("var", 999), ("fun", INT, V0), ("tuple", [INT, V0]), ("tuple", [INT] * 6),
                     record([]), record([], 0), record([], 999), record([("x", INT)]), record([("x", V0)], 1),
                     every_kind()):
            self.assert_tree(tree)
        self.assertIsNone(check_tree(value=INT))

    def test_no_trees(self):
        for value in no_trees():
            self.assert_wrong(value)
            self.assert_wrong(("fun", INT, value), (1,))
            self.assert_wrong(("tuple", [INT, value, INT]), (1,))
            self.assert_wrong(record([("a", INT), ("b", value)], 3), (1,))

    def test_variables(self):
        for value in [-1, 1000, 10 ** 30, -10 ** 30, None] + no_integers():
            self.assert_wrong(("var", value))
            self.assert_wrong(("fun", INT, ("var", value)), (1,))

    def test_tails(self):
        for value in [-1, 1000, 10 ** 30, -10 ** 30] + [value for value in no_integers() if value is not None]:
            self.assert_wrong(record([], value))
            self.assert_wrong(("fun", INT, record([("x", INT)], value)), (1,))

    def test_items(self):
        for items in [[], [INT], [INT] * 7, (INT, INT)] + no_lists():
            self.assert_wrong(("tuple", items))
            self.assert_wrong(("fun", ("tuple", items), None), (0,))

    def test_fields(self):
        for fields in [[("b", INT), ("a", INT)], [("a", INT), ("a", INT)], [["a", INT]], [("a",)], [("a", INT, INT)],
                       [None], [("a", INT), ()], ["ab"], {"a": INT}] + no_lists():
            self.assert_wrong(record(fields))
            self.assert_wrong(("fun", record(fields, 3), None), (0,))
        for name in no_names():
            self.assert_wrong(record([(name, INT)]))
        self.assert_tree(record([("a", INT), ("aa", INT), ("ab", INT), ("b", INT), ("zzzzzzzz", INT)]))

    def test_many_fields(self):
        self.assert_tree(record([(name, INT) for name in many_names(400)]))
        self.assert_tree(record([(name, INT) for name in many_names(399)], 5))
        self.assert_wrong(record([(name, INT) for name in many_names(401)]))
        self.assert_wrong(("fun", INT, record([(name, None) for name in many_names(401)])), (1,))

    def test_variables_and_tails_with_one_number(self):
        self.assert_wrong(("fun", ("var", 2), record([], 2)), (1,))
        self.assert_wrong(("fun", record([], 2), ("var", 2)), (1,))
        self.assert_wrong(record([("x", ("var", 2))], 2), (0,))
        self.assert_wrong(record([("x", INT), ("y", ("fun", INT, ("var", 0)))], 0), (1, 1))
        self.assert_wrong(("tuple", [record([], 0), ("fun", V1, V0), None]), (1, 1))
        self.assert_tree(("fun", ("var", 2), record([], 3)))

    def test_records_with_one_tail(self):
        self.assert_tree(("fun", record([("x", INT)], 0), record([("x", V1)], 0)))
        self.assert_wrong(("fun", record([("x", INT)], 0), record([("y", INT)], 0)), (1,))
        self.assert_wrong(("fun", record([("x", INT)], 0), record([], 0)), (1,))
        self.assert_wrong(("fun", record([], 0), record([("x", INT)], 0)), (1,))
        self.assert_wrong(record([("x", record([], 0))], 0), (0,))
        self.assert_wrong(("tuple", [record([("x", INT), ("y", INT)], 0), record([("x", INT)], 1),
                                     record([("x", INT)], 0)]), (2,))
        self.assert_tree(record([("x", record([("x", INT)], 0))], 0))
        self.assert_tree(("fun", record([("x", INT)]), record([("y", INT)])))

    def test_order_of_nodes(self):
        self.assert_wrong(("fun", ("fun", None, None), 5), (0, 0))
        self.assert_wrong(("fun", ("fun", INT, INT), ("fun", V0, record([], 0))), (1, 1))
        self.assert_wrong(("tuple", [V0, ("fun", record([("a", None)], 0), None)]), (1, 0))
        self.assert_wrong(("fun", record([("a", ("fun", INT, None))], 0), V0), (0, 0, 1))
        self.assert_wrong(("fun", record([("a", INT), ("b", V0)], 0), None), (0, 1))

    def test_nodes(self):
        for count in (999, 1000):
            self.assertEqual(len(parts_of_tree(sized_tree(count))), count)
            self.assert_tree(sized_tree(count))
        self.assert_limit(sized_tree(1001), 1000)
        self.assert_limit(sized_tree(5000), 1000)
        self.assert_limit(("fun", sized_tree(999), None), 1000)
        self.assert_wrong(("fun", sized_tree(998), None), (1,))
        self.assert_limit(("fun", sized_tree(999), ("fun", INT, None)), 1000)

    def test_depth(self):
        self.assert_tree(tree_under(99, V0))
        self.assert_limit(tree_under(100, V0), 100)
        self.assert_limit(tree_under(100, None), 100)
        self.assert_wrong(tree_under(99, None), (1,) * 99)
        self.assert_limit(("fun", tree_under(99, INT), None), 100)
        self.assert_wrong(("fun", None, tree_under(99, INT)), (0,))

    def test_both_limits_at_one_node(self):
        deep = nested(99, lambda value: ("fun", value, INT), INT)
        filled = ("fun", sized_tree(1000 - 1 - 99), nested(99, lambda value: ("fun", value, INT), INT))
        self.assert_tree(deep)
        self.assert_limit(filled, 1000)
        self.assert_limit(("fun", sized_tree(1000 - 2 - 99), nested(99, lambda value: ("fun", value, INT), INT)), 100)

    def test_deep_values(self):
        for around in (lambda value: [value], lambda value: (value,), lambda value: {0: value}):
            self.assert_wrong(nested(2000, around, 0))
            self.assert_wrong(("var", nested(2000, around, 0)))
            self.assert_wrong(record([], nested(2000, around, 0)))
        for around in (lambda value: ("fun", value, INT), lambda value: ("tuple", [value, INT]),
                       lambda value: record([("x", value)]), lambda value: ("fun", value, value)):
            self.assert_limit(nested(2000, around, INT), 100)


class ClosedRecords(unittest.TestCase):
    def test_their_names_are_their_own(self):
        closed = [record([("a", INT)]), record([("b", INT)]), record([]), record([("a", INT), ("b", INT)])]
        self.assertIsNone(check_tree(("tuple", closed)))
        for wrong in (None, ("var", -1), record([], True)):
            self.assertEqual(fault(check_tree, ("tuple", closed + [wrong])), (InvalidTree, (4,)))
            self.assertEqual(fault(substituted, ("tuple", closed + [V0]), {0: wrong}), (InvalidBound, "table"))
        self.assertEqual(fault(substituted, ("tuple", closed + [V0, record([], 1)]), {0: V1}), (InvalidTree, (5,)))


class Renumbered(unittest.TestCase):
    def test_order_of_the_text(self):
        for tree, expected in ((("var", 7), V0), (("fun", ("var", 7), ("fun", ("var", 3), ("var", 7))),
                                                  ("fun", V0, ("fun", V1, V0))),
                               (record([("x", ("var", 8))], 3), record([("x", V0)], 1)),
                               (record([("x", record([("y", ("var", 5))], 6))], 7),
                                record([("x", record([("y", V0)], 1))], 2)),
                               (("tuple", [record([], 9), ("var", 1), record([], 9), ("var", 0)]),
                                ("tuple", [record([], 0), V1, record([], 0), V2])),
                               (every_kind(), ("fun", ("tuple", [V0, INT, record([("a", BOOL), ("b", V0)], 1)]),
                                               ("fun", record([]), record([("a", V2), ("b", record([]))], 1))))):
            self.assertEqual(renumbered(tree), expected)
            self.assertEqual(repr(renumbered(expected)), repr(expected))
            self.assertEqual(renumbered(tree=tree), expected)

    def test_random_trees(self):
        source = random.Random(10)
        for _ in range(200):
            tree = random_tree(source, 4)
            found = renumbered(tree)
            self.assertEqual(renumbered(found), found)
            self.assertEqual(tree_text(found), tree_text(tree))
            self.assertEqual(len(parts_of_tree(found)), len(parts_of_tree(tree)))

    def test_results_are_new(self):
        tree = ("tuple", [record([("a", ("tuple", [INT, INT]))]), INT])
        before = repr(tree)
        found = renumbered(tree)
        found[1][0][1][0][1][1].clear()
        found[1][0][1].clear()
        found[1].clear()
        self.assertEqual(repr(tree), before)
        self.assertEqual(repr(renumbered(tree)), before)

    def test_many_variables(self):
        tree = nested(499, lambda value: ("fun", value, V0), V0)
        self.assertEqual(fault(renumbered, tree), (LimitExceeded, 100))
        tree = record([(name, ("fun", ("var", 999 - k), INT)) for k, name in enumerate(many_names(300))], 0)
        found = renumbered(tree)
        self.assertEqual([inner[1] for _, inner in found[1]], [("var", k) for k in range(300)])
        self.assertEqual(found[2], 300)


class Substituted(unittest.TestCase):
    def test_variables(self):
        tree = ("fun", V0, ("tuple", [V1, V0]))
        self.assertEqual(substituted(tree, {}), tree)
        self.assertEqual(substituted(tree, {0: INT}), ("fun", INT, ("tuple", [V1, INT])))
        self.assertEqual(substituted(tree, {0: V1, 1: V0}), ("fun", V1, ("tuple", [V0, V1])))
        self.assertEqual(substituted(tree, {0: ("fun", V0, V1)}),
                         ("fun", ("fun", V0, V1), ("tuple", [V1, ("fun", V0, V1)])))
        self.assertEqual(substituted(table={1: ("var", 999)}, tree=tree), ("fun", V0, ("tuple", [("var", 999), V0])))
        self.assertEqual(substituted(V0, {0: record([("x", V0)], 3)}), record([("x", V0)], 3))

    def test_tails(self):
        tree = record([("b", INT)], 1)
        self.assertEqual(substituted(tree, {1: ([("y", BOOL)], None)}), record([("b", INT), ("y", BOOL)]))
        self.assertEqual(substituted(tree, {1: ([("a", BOOL), ("c", V0)], 1)}),
                         record([("a", BOOL), ("b", INT), ("c", V0)], 1))
        self.assertEqual(substituted(tree, {1: ([], None)}), record([("b", INT)]))
        self.assertEqual(substituted(tree, {1: ([], 5)}), record([("b", INT)], 5))
        self.assertEqual(substituted(("fun", tree, record([("b", tree)], 1)), {1: ([("a", V0)], 2)}),
                         ("fun", record([("a", V0), ("b", INT)], 2),
                          record([("a", V0), ("b", record([("a", V0), ("b", INT)], 2))], 2)))

    def test_both(self):
        tree = ("fun", V0, record([("x", V0)], 1))
        self.assertEqual(substituted(tree, {0: record([], 1), 1: ([], 0)}),
                         ("fun", record([], 1), record([("x", record([], 1))], 0)))
        self.assertEqual(substituted(tree, {1: ([("y", V0)], 7), 0: BOOL}),
                         ("fun", BOOL, record([("x", BOOL), ("y", V0)], 7)))

    def test_order_of_keys_means_nothing(self):
        tree = ("tuple", [V0, V1, V2])
        self.assertEqual(substituted(tree, {2: V0, 0: V1, 1: V2}), substituted(tree, {0: V1, 1: V2, 2: V0}))

    def test_wrong_tables(self):
        tree = ("fun", V0, record([("x", INT)], 1))
        deep = nested(2000, lambda value: ("fun", value, INT), INT)
        for table in [[], (), [(0, INT)], {2: INT}, {1: INT}, {0: ([], None)}, {0: None}, {0: deep}, {1: (deep, None)},
                      {1: deep}, {0: sized_tree(1001)}, {None: INT}, {"0": INT}, {True: ([], None)}, {False: INT},
                      {(0,): INT}, {-1: INT}, {1: []}, {1: ([],)}, {1: ([], None, None)}, {1: [[], None]},
                      {1: ((), None)}, {1: ([], -1)}, {1: ([], 1000)}, {1: ([], True)}, {1: ([("x", INT)], None)},
                      {1: ([("b", INT), ("a", INT)], None)}, {1: ([("a", None)], None)}, {1: ([("a", V0)], 0)},
                      {1: ([("a", INT), ("x", INT)], 4)}, {1: ([("a", deep)], None)}, {0: INT, 5: INT}, {0: INT, 1: 7},
                      {1: ("record", [], None)}, {1: record([], None)}, {0: V0, 1: ([(name, INT) for name in
                                                                                   many_names(401)], None)}
                      ] + [value for value in other_values() if not isinstance(value, dict) or value]:
            self.assertEqual(fault(substituted, tree, table), (InvalidBound, "table"), table)
        for value in no_trees():
            self.assertEqual(fault(substituted, tree, {0: value}), (InvalidBound, "table"))
        self.assertEqual(fault(substituted, tree, nested(2000, lambda value: {0: value}, INT)), (InvalidBound, "table"))

    def test_errors_of_the_result(self):
        pair = ("fun", V0, V0)
        self.assertEqual(fault(substituted, ("fun", V0, V1), {0: record([], 1)}), (InvalidTree, (1,)))
        self.assertEqual(fault(substituted, ("fun", V0, record([], 1)), {0: ("fun", V0, V1)}), (InvalidTree, (1,)))
        self.assertEqual(fault(substituted, ("fun", record([], 0), record([("x", INT)], 1)), {0: ([], 1)}),
                         (InvalidTree, (1,)))
        self.assertEqual(fault(substituted, ("fun", INT, record([("x", INT)], 1)),
                               {1: ([(name, INT) for name in many_names(400)], None)}), (InvalidTree, (1,)))
        self.assertEqual(len(substituted(record([("x", INT)], 1),
                                         {1: ([(name, INT) for name in many_names(399)], None)})[1]), 400)
        self.assertEqual(len(parts_of_tree(substituted(pair, {0: sized_tree(499)}))), 999)
        self.assertEqual(fault(substituted, pair, {0: sized_tree(500)}), (LimitExceeded, 1000))
        self.assertEqual(fault(substituted, pair, {0: tree_under(99, INT)}), (LimitExceeded, 100))
        self.assertEqual(substituted(pair, {0: tree_under(98, INT)}),
                         ("fun", tree_under(98, INT), tree_under(98, INT)))

    def test_results_far_too_large(self):
        tree = ("tuple", [nested(8, lambda value: ("fun", value, value), V0)] * 2)
        self.assertEqual(len(parts_of_tree(tree)), 2 * 511 + 1)
        self.assertEqual(fault(substituted, tree, {0: INT}), (LimitExceeded, 1000))
        tree = nested(8, lambda value: ("fun", value, value), V0)
        self.assertEqual(fault(substituted, tree, {0: sized_tree(1000)}), (LimitExceeded, 1000))

    def test_errors_of_the_tree_come_first(self):
        self.assertEqual(fault(substituted, ("fun", INT, None), None), (InvalidTree, (1,)))
        self.assertEqual(fault(substituted, sized_tree(1001), {0: None}), (LimitExceeded, 1000))

    def test_arguments_stay_and_results_are_new(self):
        tree = ("tuple", [V0, V0, record([("x", ("tuple", [INT, INT]))], 1)])
        table = {0: ("tuple", [INT, BOOL]), 1: ([("y", ("tuple", [BOOL, INT]))], None)}
        before = repr((tree, table))
        found = substituted(tree, table)
        expected = repr(found)
        found[1][0][1].clear()
        self.assertEqual(found[1][1], ("tuple", [INT, BOOL]))
        found[1][2][1][0][1][1].clear()
        found[1][2][1][1][1][1].clear()
        found[1][2][1].clear()
        found[1].clear()
        self.assertEqual(repr((tree, table)), before)
        self.assertEqual(repr(substituted(tree, table)), expected)
        self.assertEqual(fault(substituted, tree, {0: None}), (InvalidBound, "table"))
        self.assertEqual(repr((tree, table)), before)


def put_together(tree, table):
    """Return what a tree becomes by a table, by a plain walk."""
    if tree[0] == "var":
        return table.get(tree[1], tree)
    if tree[0] == "record":
        fields = [(name, put_together(inner, table)) for name, inner in tree[1]]
        more, tail = table.get(tree[2], ([], tree[2]))
        return ("record", sorted(fields + more, key=lambda field: field[0]), tail)
    if tree[0] == "tuple":
        return ("tuple", [put_together(item, table) for item in tree[1]])
    return (tree[0], *[put_together(inner, table) for inner in tree[1:]])


def lists_within(tree):
    """Return the identities of all lists within a tree."""
    own = [id(tree[1])] if tree[0] in ("tuple", "record") else []
    return own + [found for _, part in parts_of_tree(tree)[1:] for found in
                  ([id(part[1])] if part[0] in ("tuple", "record") else [])]


class SubstitutedInLargeTrees(unittest.TestCase):
    def test_hundreds_of_nodes(self):
        names = many_names(400)
        item, fields = ("tuple", [INT] * 6), [(name, INT) for name in names[200:]]
        for tree, table, nodes in ((record([(name, ("var", 5)) for name in names[:142]]), {5: item}, 995),
                                   (record([(name, INT) for name in names[:200]], 5), {5: (fields, None)}, 401)):
            found = substituted(tree, table)
            self.assertEqual(found, put_together(tree, table))
            self.assertEqual(len(parts_of_tree(found)), nodes)
            lists = lists_within(found)
            self.assertEqual(len(set(lists)), len(lists))
            self.assertFalse(set(lists) & set(lists_within(tree) + [id(item[1]), id(fields)]))

    def test_just_at_the_limits(self):
        names = many_names(400)
        for many, expected in ((142, None), (143, (LimitExceeded, 1000))):
            tree = record([(name, V0) for name in names[:many]])
            self.assertEqual(fault(substituted, tree, {0: ("tuple", [INT] * 6)}), expected)
        for many, expected in ((200, None), (201, (InvalidTree, (1,)))):
            tree = ("fun", V0, record([(name, V0) for name in names[:200]], 3))
            table = {3: ([(f"z{name}", INT) for name in names[:many]], None)}
            self.assertEqual(fault(substituted, tree, table), expected)
        for deep, expected in ((40, None), (41, (LimitExceeded, 100))):
            self.assertEqual(fault(substituted, tree_under(60, V0), {0: tree_under(deep - 1, INT)}), expected)
            self.assertEqual(fault(substituted, tree_under(60, record([], 0)), {0: ([("x", tree_under(deep - 2, INT))], 1)}),
                             expected)

    def test_entries_in_which_the_tail_is_twice(self):
        entry = ([("q", record([("q", INT)], 7))], 7)
        self.assertEqual(substituted(record([], 1), {1: entry}), record([("q", record([("q", INT)], 7))], 7))
        for tree, path in ((record([("a", INT)], 1), (1,)), (record([("z", INT)], 1), (0,))):
            self.assertEqual(fault(substituted, tree, {1: entry}), (InvalidTree, path))

    def test_random_trees(self):
        source = random.Random(8)
        right = wrong = 0
        for _ in range(1500):
            tree = random_tree(source, source.randint(1, 4))
            if fault(check_tree, tree) is not None:
                continue
            table = {}
            for _, part in parts_of_tree(tree):
                if part[0] == "var" and source.random() < 0.4:
                    table[part[1]] = random_tree(source, 2)
                elif part[0] == "record" and part[2] is not None and source.random() < 0.5:
                    more = [(name, random_tree(source, 1)) for name in sorted(source.sample("pqr", source.randint(0, 2)))]
                    table[part[2]] = (more, source.choice([None, 7, 4, 5, 6, 0]))
            entries = [("record", *entry) if isinstance(entry[0], list) else entry for entry in table.values()]
            if any(fault(check_tree, entry) is not None for entry in entries):
                self.assertEqual(fault(substituted, tree, table), (InvalidBound, "table"))
                continue
            expected = put_together(tree, table)
            found = fault(check_tree, expected)
            self.assertEqual(fault(substituted, tree, table), found)
            if found is None:
                self.assertEqual(substituted(tree, table), expected)
            right, wrong = right + (found is None), wrong + (found is not None)
        self.assertGreater(min(right, wrong), 15)


class Places(unittest.TestCase):
    def test_places(self):
        for name in ("check_tree", "renumbered", "substituted"):
            self.assertEqual(getattr(trees, name).__module__, "vasttypes.trees")


if __name__ == "__main__":
    unittest.main()
