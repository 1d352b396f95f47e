"""Points 18 to 23: common instances, and types of which parts become equal."""

import random
import unittest
from itertools import permutations

from plain import Clash, Store, common, marks_within, numbered
from samples import (BOOL, INT, V0, V1, fault, many_names, nested, of, other_values, parts_of_tree, random_tree,
                     text_of, used_often)
from vasttypes import common as module
from vasttypes.common import becomes, common_instance, common_instance_of, equated, fitting
from vasttypes.errors import InvalidBound, InvalidPath, LimitExceeded
from vasttypes.graphs import made, towers, vast
from vasttypes.trees import check_tree, substituted

# Pairs of types with their common instance.
COMMON = [
    ("'a -> int", "bool -> 'a", "bool -> int"),
    ("{x: int | 'a}", "{y: bool | 'a}", "{x: int, y: bool | 'a}"),
    ("'a -> 'a", "'a -> int -> 'a", None),
    ("'a", "'a", "'a"),
    ("'a", "int", "int"),
    ("int", "bool", None),
    ("int", "int", "int"),
    ("int -> int", "int * int", None),
    ("int * int", "int * int * int", None),
    ("{}", "int", None),
    ("'a -> 'b", "'a -> 'a", "'a -> 'a"),
    ("'a -> 'b -> 'a", "'a -> 'a -> 'b", "'a -> 'a -> 'a"),
    ("'a * 'b * 'a", "'a * 'a * int", "int * int * int"),
    ("'a * 'b * 'a * 'b", "int * 'a * 'b * 'b", "int * int * int * int"),
    ("'a -> int", "'a -> 'b -> 'a", None),
    ("{}", "{}", "{}"),
    ("{}", "{| 'a}", "{}"),
    ("{| 'a}", "{| 'a}", "{| 'a}"),
    ("{x: int}", "{y: int | 'a}", None),
    ("{x: int}", "{| 'a}", "{x: int}"),
    ("{x: int}", "{x: 'a | 'b}", "{x: int}"),
    ("{x: int}", "{x: int, y: int}", None),
    ("{x: int}", "{x: bool | 'a}", None),
    ("{x: int, z: 'a | 'b}", "{y: bool, z: {} | 'a}", "{x: int, y: bool, z: {} | 'a}"),
    ("{x: int | 'a} * {x: bool | 'a}", "{x: 'a, y: 'a | 'b} * 'c", "{x: int, y: int | 'a} * {x: bool, y: int | 'a}"),
    ("{| 'a} * {| 'a}", "{x: int | 'a} * {y: bool | 'b}", "{x: int, y: bool | 'a} * {x: int, y: bool | 'a}"),
    ("{| 'a} * {| 'a}", "{x: int} * {y: bool | 'b}", None),
    ("{| 'a} * {| 'a}", "{x: int} * {x: bool | 'b}", None),
    ("{| 'a} * {| 'b}", "'a * 'a", "{| 'a} * {| 'a}"),
    ("{x: 'a | 'b} * 'a", "'a * 'a", None),
    ("{| 'a} * {| 'a}", "{| 'a} * {x: {| 'a} | 'b}", None),
    ("{x: {x: 'a | 'b} | 'b}", "{y: int | 'a}", "{x: {x: 'a, y: int | 'b}, y: int | 'b}"),
    ("{x: 'a | 'b}", "{y: {y: int | 'a} | 'a}", "{x: 'a, y: {x: 'a, y: int | 'b} | 'b}"),
    ("{x: {x: int | 'a} | 'a}", "{y: {| 'a} | 'b} -> 'c", None),
    ("{x: {x: int | 'a} | 'a}", "{x: 'a, y: 'a | 'b}", None),
    ("{x: {| 'a} | 'b}", "{y: int | 'a}", "{x: {| 'a}, y: int | 'b}"),
    ("'a -> {x: 'a | 'b}", "{x: 'a | 'b} -> 'c", "{x: 'a | 'b} -> {x: {x: 'a | 'b} | 'c}"),
    ("'a -> 'a -> 'b", "{x: int | 'a} -> {y: int | 'b} -> {x: bool | 'a}",
     "{x: int, y: int | 'a} -> {x: int, y: int | 'a} -> {x: bool, y: int | 'a}"),
]


def expected(tree, pairs):
    """Return the tree in which the parts with these pairs of paths became equal, and what the parts became."""
    store, parts = Store(), dict(parts_of_tree(tree))
    store.count = 1000
    try:
        for one, other in pairs:
            store.unify(parts[one], parts[other])
    except Clash:
        return None
    return {path: numbered(store.whole(part)) for path, part in parts.items()}


def random_trees(source, count, levels=3, variables=2):
    found = [random_tree(source, levels, variables) for _ in range(count)]
    return [tree for tree in found if fault(check_tree, tree) is None]


def random_row(source):
    """Return a tree with few kinds of types, and pairs of its paths, of which a good part has no result."""
    def inner(levels):
        if levels == 0 or source.random() < 0.3:
            return source.choice([V0, V0, V1, INT, BOOL])
        return source.choice([
            lambda: ("fun", inner(levels - 1), inner(levels - 1)),
            lambda: ("fun", inner(levels - 1), inner(levels - 1)),
            lambda: ("tuple", [inner(levels - 1), inner(levels - 1)]),
            lambda: ("record", [("a", inner(levels - 1))], source.choice([None, 4, 4]))])()
    tree = ("tuple", [inner(2), inner(2), inner(2)])
    parts = parts_of_tree(tree)
    paths = [path for path, _ in parts]
    variables = [path for path, part in parts if part[0] == "var"]
    pairs = []
    for _ in range(source.randint(2, 5)):
        one, other = source.choice(paths), source.choice(paths)
        how = source.choice(["within", "within", "again", "again", "same", "apart"])
        if how == "within" and variables:
            one = source.choice(variables)
            other = one[:source.randrange(len(one))]
        elif how == "again" and pairs:
            one = source.choice(pairs[-1])
        elif how == "same":
            other = one
        pairs.append((one, other) if source.random() < 0.5 else (other, one))
    return tree, pairs


class CommonInstance(unittest.TestCase):
    def test_pairs(self):
        for one, other, text in COMMON:
            self.assertEqual(text_of(common_instance(of(one), of(other))), text, (one, other))
            self.assertEqual(text_of(common_instance(of(other), of(one))), text, (one, other))
            self.assertEqual(text_of(common_instance(second=of(other), first=of(one))), text)

    def test_against_plain_trees(self):
        source = random.Random(20)
        some = none = 0
        for _ in range(700):
            trees = random_trees(source, source.choice([2, 2, 2, 3]), source.choice([2, 3, 4]), source.choice([1, 2, 4]))
            if trees:
                result = common([apart(tree, k) for k, tree in enumerate(trees)])
                found = common_instance_of([vast(tree) for tree in trees])
                self.assertEqual(None if found is None else found.tree(), result, trees)
                some, none = some + (result is not None), none + (result is None)
        self.assertGreater(min(some, none), 100)

    def test_variables_have_nothing_to_do_with_one_another(self):
        one = of("'a * int")
        self.assertEqual(text_of(common_instance(one, of("int * 'a"))), "int * int")
        self.assertEqual(common_instance(of("'a -> 'b"), of("'a -> 'b")), of("'a -> 'b"))
        self.assertEqual(text_of(common_instance(of("'a -> int -> 'b"), of("'b -> 'a"))), "'a -> int -> 'b")

    def test_types_with_themselves_and_instances(self):
        source = random.Random(21)
        for tree in random_trees(source, 100):
            big = vast(tree)
            self.assertEqual(common_instance(big, big), big)
            self.assertEqual(common_instance(big, vast(V0)), big)
            marks = sorted(marks_within(tree) & {0, 1, 2})
            instance = vast(substituted(tree, {mark: ("fun", INT, ("var", 900 + mark)) for mark in marks}))
            self.assertEqual(common_instance(big, instance), instance)
            self.assertEqual(common_instance(instance, big), instance)

    def test_large_types(self):
        self.assertEqual(common_instance(towers(300), towers(200)), towers(300))
        self.assertEqual(common_instance(towers(0), towers(400)), towers(400))
        parts = [towers(400), vast(V0)]
        self.assertEqual(common_instance(made("tuple", parts), made("tuple", parts[::-1])),
                         made("tuple", [towers(400)] * 2))
        # Behind 'a as the first item the tower is within itself.
        self.assertIsNone(common_instance(of("'a * 'a"), made("tuple", [towers(5), vast(INT)])))

    def test_types_with_nearly_1000_parts(self):
        deep = used_often(of("'a -> 'a * 'a"), 599, towers(400))
        self.assertEqual(common_instance(deep, deep), deep)
        self.assertEqual(common_instance(deep, towers(300)), deep)
        long = used_often(of("'a -> int -> 'a"), 990, vast(V0))
        other = used_often(of("'a -> 'b -> 'a"), 490, vast(V0))
        self.assertEqual(common_instance(long, other), long)
        self.assertIsNone(common_instance(long, used_often(of("'a -> int -> 'a"), 980, vast(INT))))
        self.assertIsNone(common_instance(long, used_often(of("'a -> bool -> 'a"), 500, vast(V0))))

    def test_limit(self):
        def record(parts):
            return made("record", parts, many_names(len(parts)))
        unlike = made("fun", [vast(V0), vast(INT)])
        one = record([unlike] * 300 + [vast(V0)])
        self.assertEqual(one.node_total(), 603)
        other = record([vast(V0)] * 300 + [towers(400)])
        self.assertEqual(fault(common_instance, one, other), (LimitExceeded, 1000))
        self.assertEqual(common_instance(one, record([vast(V0)] * 300 + [towers(395)])).node_total(), 998)
        self.assertEqual(common_instance(one, record([vast(V0)] * 300 + [towers(397)])).node_total(), 1000)
        self.assertEqual(fault(common_instance, one, record([vast(V0)] * 300 + [towers(398)])), (LimitExceeded, 1000))
        # None comes before the limit.
        self.assertIsNone(common_instance(record([unlike] * 300 + [vast(V0), vast(INT)]),
                                          record([vast(V0)] * 300 + [towers(400), vast(BOOL)])))
        # Only the result counts: all the functions become the same.
        ground = record([of("int -> int")] * 300 + [vast(V0)])
        self.assertEqual(common_instance_of([one, other, ground]).node_total(), 404)
        self.assertEqual(common_instance_of([other, one, ground]).node_total(), 404)

    def test_arguments_stay(self):
        one, other = of("{x: 'a | 'b} -> 'a"), of("{x: int, y: 'a | 'b} -> 'c")
        common_instance(one, other)
        equated(other, [((0, 1), (1,))])
        self.assertEqual((text_of(one), text_of(other)), ("{x: 'a | 'b} -> 'a", "{x: int, y: 'a | 'b} -> 'c"))


def apart(tree, number):
    """Return a tree with marks that no tree with another number has."""
    if tree[0] == "var":
        return ("var", tree[1] * 10 + number + 10000)
    if tree[0] == "tuple":
        return ("tuple", [apart(item, number) for item in tree[1]])
    if tree[0] == "record":
        tail = None if tree[2] is None else tree[2] * 10 + number + 10000
        return ("record", [(name, apart(inner, number)) for name, inner in tree[1]], tail)
    return (tree[0], *[apart(inner, number) for inner in tree[1:]])


class CommonInstanceOfMany(unittest.TestCase):
    def test_one(self):
        for text in ("'a", "int", "{x: 'a | 'b} -> 'a", "'a -> 'b * 'a"):
            self.assertEqual(common_instance_of([of(text)]), of(text))
            self.assertEqual(common_instance_of(bigs=(of(text),)), of(text))
        self.assertEqual(common_instance_of([towers(400)]), towers(400))

    def test_every_order(self):
        bigs = [of("'a -> 'b -> 'c"), of("'a -> 'a -> 'b"), of("'a -> {x: int | 'b} -> {x: 'c | 'b}"),
                of("{y: bool | 'a} -> 'b -> 'b")]
        results = [common_instance_of(list(order)) for order in permutations(bigs)]
        self.assertEqual({text_of(big) for big in results}, {text_of(results[0])})
        self.assertIn("y: bool", text_of(results[0]))
        for order in permutations(bigs + [of("int -> 'a")]):
            self.assertIsNone(common_instance_of(order))

    def test_random_orders(self):
        source = random.Random(22)
        for _ in range(100):
            bigs = [vast(tree) for tree in random_trees(source, 3, 3)]
            results = [common_instance_of(order) for order in permutations(bigs)] if bigs else [None]
            for found in results:
                self.assertEqual(found, results[0])

    def test_twenty(self):
        bigs = [made("record", [vast(INT)], [name], True) for name in many_names(20)]
        found = common_instance_of(bigs)
        self.assertEqual(found, made("record", [vast(INT)] * 20, many_names(20), True))
        self.assertEqual(common_instance_of(tuple(bigs[::-1])), found)
        self.assertEqual(common_instance_of([towers(k * 20) for k in range(20)]), towers(380))
        self.assertEqual(common_instance_of([vast(V0)] * 20), vast(V0))

    def test_wrong_values(self):
        one = vast(INT)
        for bigs in [[], (), [one] * 21, (one,) * 21, [None], [one, None], [one, INT], (one, 0), one, {0: one},
                     [[one]], nested(2000, lambda value: [value], one), INT, "int", 0] + other_values():
            self.assertEqual(fault(common_instance_of, bigs), (InvalidBound, "bigs"))

    def test_list_stays(self):
        bigs = [of("'a"), of("int")]
        common_instance_of(bigs)
        self.assertEqual(bigs, [of("'a"), of("int")])


BIG = "'a * (int -> 'b) * 'b"


class Equated(unittest.TestCase):
    def test_examples(self):
        pairs = [((0,), (1,)), ((0,), (2,))]
        self.assertEqual(text_of(equated(of(BIG), pairs[:1])), "(int -> 'a) * (int -> 'a) * 'a")
        self.assertIsNone(equated(of(BIG), pairs))
        self.assertEqual(text_of(equated(of(BIG), pairs[1:])), "'a * (int -> 'a) * 'a")
        for pairs in ([], ()):
            self.assertEqual(equated(of(BIG), pairs), of(BIG))
        self.assertEqual(equated(pairs=[((), ())], big=of(BIG)), of(BIG))
        self.assertIsNone(equated(of(BIG), [((), (0,))]))
        self.assertIsNone(equated(of(BIG), [((1, 0), (1,))]))
        self.assertEqual(text_of(equated(of("{x: 'a | 'b} * {y: int | 'c}"), (((0,), (1,)),))),
                         "{x: 'a, y: int | 'b} * {x: 'a, y: int | 'b}")

    def test_tails_that_become_something_again_and_again(self):
        big = of("{| 'a} * {x: int | 'b} * {y: int | 'c} * {y: int, z: int | 'd} * {w: int | 'e} * {| 'a}")
        pairs = [((0,), (1,)), ((1,), (2,)), ((2,), (3,)), ((3,), (4,))]
        for many, text in ((0, "{| 'a}"), (1, "{x: int | 'a}"), (2, "{x: int, y: int | 'a}"),
                           (3, "{x: int, y: int, z: int | 'a}"), (4, "{w: int, x: int, y: int, z: int | 'a}")):
            self.assertEqual(text_of(becomes(big, pairs[:many], (5,))), text)
            self.assertEqual(text_of(becomes(big, pairs[:many][::-1], (5,))), text)
        whole = equated(big, pairs)
        self.assertEqual(whole.node_total(), 3)
        self.assertEqual(whole.variables(), [("tail", 6)])

    def test_paths_are_those_of_the_type_before(self):
        # By the first pair the record gets a field ahead of the one that the second pair means.
        big = of("{b: 'a | 'b} * {a: int | 'c} * bool")
        self.assertEqual(text_of(equated(big, [((0,), (1,)), ((0, 0), (2,))])),
                         "{a: int, b: bool | 'a} * {a: int, b: bool | 'a} * bool")
        self.assertEqual(fault(equated, big, [((0,), (1,)), ((0, 1), (2,))]), (InvalidPath, (0, 1)))
        self.assertEqual(text_of(becomes(big, [((0,), (1,))], (0, 0))), "'a")
        self.assertEqual(text_of(becomes(big, [((0,), (1,))], (1, 0))), "int")

    def test_against_plain_trees(self):
        source = random.Random(23)
        some = none = 0
        for tree in random_trees(source, 300, 4, 4):
            paths = [path for path, _ in parts_of_tree(tree)]
            pairs = [(source.choice(paths), source.choice(paths)) for _ in range(source.choice([1, 1, 2, 3, 4]))]
            results = [expected(tree, pairs[:k]) for k in range(len(pairs) + 1)]
            big = vast(tree)
            found = equated(big, pairs)
            self.assertEqual(None if found is None else found.tree(), results[-1] and results[-1][()])
            self.assertEqual(fitting(big, pairs), max([k for k, result in enumerate(results) if result is not None]))
            for path in source.sample(paths, min(4, len(paths))):
                part = becomes(big, pairs, path)
                self.assertEqual(None if part is None else part.tree(), results[-1] and results[-1][path])
            some, none = some + (found is not None), none + (found is None)
        self.assertGreater(min(some, none), 50)

    def assert_fitting(self, big, pairs, many):
        """Ask for the pairs one after another: the first so many fit together."""
        for count in range(len(pairs) + 1):
            self.assertEqual(fitting(big, pairs[:count]), min(count, many), (text_of(big), pairs[:count]))
            self.assertEqual(fitting(big, tuple(pairs[:count])), min(count, many))
            self.assertEqual(equated(big, pairs[:count]) is not None, count <= many)
            self.assertEqual(becomes(big, pairs[:count], ()) is not None, count <= many)

    def test_fitting_where_a_circle_is_ahead_of_a_clash(self):
        # The first pair that has no result makes a part be within itself; a later one cannot be made equal at all.
        for text, pairs, many in (
                ("('a -> bool -> int) -> 'a", [((), (1,)), ((0, 1), (1,))], 0),
                ("('a -> bool -> int) -> 'a", [((0, 1), (0, 1)), ((), (1,)), ((0, 1), (1,)), ((), ())], 1),
                ("'a -> int -> int", [((), (0,)), ((1,), (0,))], 0),
                ("('a * 'b) * (int * bool) * 'c", [((0, 0), (2,)), ((0,), (2,)), ((1,), (0,))], 1),
                ("(bool -> bool) -> 'a -> 'a", [((1, 1), (1,)), ((1,), (1, 0)), ((), (1,))], 0),
                ("{a: 'a | 'b} -> int -> int", [((0, 0), ()), ((1,), ())], 0),
                ("{a: {b: int, xyz: 'a}, b: {b: bool, xyz: int} | 'b}", [((0, 1), (0,)), ((1,), (0,))], 0),
                ("{a: int} * {a: {| 'a}}", [((1,), (1, 0)), ((0,), (1,))], 0),
                ("{a: {b: int | 'a}, b: {b: {| 'b} | 'a}}", [((), (1, 0)), ((0,), (1,))], 0)):
            self.assert_fitting(of(text), pairs, many)

    def test_fitting_where_a_clash_makes_a_circle(self):
        # What a pair that cannot be made equal would make equal in part is within itself.
        for text, pairs, many in (
                ("(int * 'a) * (bool * ('a -> int))", [((0, 0), (0, 0)), ((0,), (1,))], 1),
                ("('a * int) * (('a -> int) * bool)", [((0, 0), (1, 0, 0)), ((0,), (1,))], 1),
                ("'a -> int -> 'a", [((0,), (1, 1)), ((), (1,))], 1),
                ("bool * (int * 'a)", [((1, 0), (1, 0)), ((1, 0), (1, 1)), ((), ()), ((1,), ())], 3),
                ("{x: {x: bool}}", [((), ()), ((), (0,))], 1),
                ("{a: {a: int | 'a} | 'a}", [((0, 0), (0, 0)), ((), (0,))], 1),
                ("{a: int, b: {a: int | 'a} | 'b}", [((0,), (1, 0)), ((), (1,)), ((), ())], 1)):
            self.assert_fitting(of(text), pairs, many)

    def test_fitting_pair_after_pair(self):
        source = random.Random(26)
        ends = []
        for _ in range(2500):
            tree, pairs = random_row(source)
            many = [expected(tree, pairs[:count]) is not None for count in range(len(pairs) + 1)].count(True) - 1
            self.assert_fitting(vast(tree), pairs, many)
            ends.append((many, many == len(pairs)))
        for many in range(4):
            self.assertGreater(ends.count((many, False)), 30)

    def test_fitting(self):
        pairs = [((0,), (1,)), ((0,), (2,))]
        self.assertEqual(fitting(of(BIG), pairs), 1)
        self.assertEqual(fitting(of(BIG), pairs[::-1]), 1)
        self.assertEqual(fitting(of(BIG), []), 0)
        self.assertEqual(fitting(pairs=pairs[:1] * 100, big=of(BIG)), 100)
        self.assertEqual(fitting(of(BIG), [((1, 0), (1,))] + pairs), 0)
        self.assertEqual(fitting(of(BIG), pairs[:1] + [((), ())] * 50 + [((1, 0), (1,))] + pairs), 51)
        self.assertEqual(fitting(of("int * bool"), [((0,), (1,)), ((0,), (0,))]), 0)

    def test_becomes(self):
        pairs = [((0,), (1,)), ((0,), (2,))]
        for path, text in (((), "(int -> 'a) * (int -> 'a) * 'a"), ((0,), "int -> 'a"), ((1,), "int -> 'a"),
                           ((1, 0), "int"), ((1, 1), "'a"), ((2,), "'a")):
            self.assertEqual(text_of(becomes(of(BIG), pairs[:1], path)), text)
            self.assertIsNone(becomes(path=path, pairs=pairs, big=of(BIG)))
            self.assertEqual(becomes(of(BIG), [], path), of(BIG).part(path))

    def test_large_types(self):
        items = [("var", 1), ("tuple", [V0, V0]), ("var", 2), ("tuple", [V1, V1])]
        self.assertEqual(becomes(vast(("tuple", items)), [((0,), (1,)), ((2,), (3,))], (2,)), towers(2))
        # A chain of variables, each of which becomes a pair of the one before.
        fields = [("fun", ("var", k + 1), ("tuple", [("var", k), ("var", k)])) for k in range(100)]
        big = vast(("record", list(zip(many_names(100), fields)), None))
        pairs = [((k, 0), (k, 1)) for k in range(100)]
        self.assertEqual(becomes(big, pairs, (99, 0)), towers(100))
        self.assertEqual(becomes(big, pairs[::-1], (99, 1)), towers(100))
        self.assertEqual(fitting(big, pairs), 100)
        self.assertEqual(fitting(big, pairs[:99] + [((0, 1), (98, 0))]), 99)
        deep = used_often(of("'a -> 'a * 'a"), 599, towers(400))
        self.assertEqual(equated(deep, [((0,), (1,))] * 100), deep)
        self.assertEqual(fitting(deep, [((0,) * 998, (1,) * 998)] * 99 + [((), (0,))]), 99)
        self.assertEqual(becomes(deep, [], (1,) * 500).node_total(), 500)

    def row(self, size):
        """Return a row of definitions within one type, and the pairs of paths that make them equal."""
        tree = INT
        for k in range(size - 1, -1, -1):
            tree = ("tuple", [("var", k + 1), ("tuple", [("var", k), ("var", k)]), tree])
        return vast(tree), [((2,) * k + (0,), (2,) * k + (1,)) for k in range(size)]

    def test_many_pairs_within_one_type(self):
        for size in (1, 2, 10, 40, 60, 90):
            big, pairs = self.row(size)
            last = (2,) * (size - 1) + (0,)
            whole = equated(big, pairs)
            for order in (pairs, pairs[::-1], pairs[30:] + pairs[:30], random.Random(size).sample(pairs, size)):
                self.assertEqual(becomes(big, order, last), towers(size))
                self.assertEqual(equated(big, order), whole)
                self.assertEqual(fitting(big, order), size)
                self.assertEqual(becomes(big, order, (2,) * (size - 1) + (1, 0)), towers(size - 1))
                circle = (last, (1, 0))
                self.assertEqual(fitting(big, order + [circle]), size)
                self.assertIsNone(equated(big, order + [circle]))
                self.assertIsNone(becomes(big, [circle] + order, last))

    def test_circles_among_many_pairs(self):
        source = random.Random(41)
        for _ in range(150):
            size = source.randint(2, 12)
            big, pairs = self.row(size)
            pairs = source.sample(pairs, size)
            for _ in range(source.randint(1, 3)):
                one, other = source.randint(0, size - 1), source.randint(0, size - 1)
                pairs.insert(source.randint(0, size), ((2,) * one + (0,), (2,) * other + (1, 0)))
            results = [equated(big, pairs[:many]) is not None for many in range(len(pairs) + 1)]
            self.assertEqual(fitting(big, pairs), results.count(True) - 1)
            self.assertEqual(results, sorted(results, reverse=True))

    def test_paths_one_after_the_other(self):
        big = of("(int * 'a * (bool * 'b)) * (int * 'a * ('a * 'b)) * bool")
        paths = [path for path, _ in parts_of_tree(big.tree())]
        source = random.Random(42)
        for _ in range(60):
            pairs = [(source.choice(paths), source.choice(paths)) for _ in range(6)]
            for at in range(6):
                for wrong in [(7,), (1, True), (1, 2, False), (0, 1, 0), (1, 2, 1, 0), (True, 2), (1j * 0 + 1,), (1, 2, 2)]:
                    for pair in ((wrong, pairs[at][1]), (pairs[at][0], wrong)):
                        self.assertEqual(fault(fitting, big, pairs[:at] + [pair] + pairs[at + 1:]), (InvalidPath, wrong))

    def test_wrong_pairs(self):
        big = of(BIG)
        for pairs in [[((), ())] * 101, (((), ()),) * 101, [()], [((),)], [((), (), ())], [[(), ()]], [((), ()), None],
                      [((), ()), ((), (), ())], {((), ()): 1}, {}, ((), ()), [((9,), ()), 5], "", "ab", 0, None, [0],
                      ["ab"], nested(2000, lambda value: [value])] + other_values():
            for function in (equated, fitting, lambda big, pairs: becomes(big, pairs, None)):
                self.assertEqual(fault(function, big, pairs), (InvalidBound, "pairs"), pairs)

    def test_wrong_paths(self):
        big = of(BIG)
        for path in [(3,), (-1,), (0, 0), (1, 2), (True,), (False,), (1, True), ("0",), (None,), ([],), [], [0], "", "0",
                     0, nested(2000, lambda value: (value,), 0)[0]] + other_values():
            for pairs in ([(path, ())], [((), path)], [((0,), (1,)), ((0,), (2,)), (path, (8,))], [(path, path)],
                          [((), ()), (path, None), (None, ())], (((), path), ((9,), ()))):
                for function in (equated, fitting, lambda big, pairs: becomes(big, pairs, None)):
                    with self.assertRaises(InvalidPath) as caught:
                        function(big, pairs)
                    self.assertTrue(caught.exception.path is path)
            for pairs in ([], [((0,), (1,))], [((0,), (1,)), ((0,), (2,))]):
                with self.assertRaises(InvalidPath) as caught:
                    becomes(big, pairs, path)
                self.assertTrue(caught.exception.path is path)

    def test_pairs_stay(self):
        pairs = [((0,), (1,)), ((0,), (2,))]
        equated(of(BIG), pairs), fitting(of(BIG), pairs), becomes(of(BIG), pairs, ())
        self.assertEqual(pairs, [((0,), (1,)), ((0,), (2,))])


class Facts(unittest.TestCase):
    def test_common_instances_by_equated(self):
        source = random.Random(24)
        for _ in range(200):
            trees = random_trees(source, 2, 3)
            if len(trees) == 2:
                first, second = [vast(tree) for tree in trees]
                whole = equated(made("tuple", [first, second]), [((0,), (1,))])
                found = common_instance(first, second)
                self.assertEqual(found, None if whole is None else whole.part((0,)))
                if found is not None:
                    self.assertEqual(common_instance(first, found), found)
                    self.assertEqual(common_instance(found, second), found)
                    self.assertEqual(whole.part((1,)), found)

    def test_more_pairs_make_instances(self):
        source = random.Random(25)
        for tree in random_trees(source, 150, 4, 4):
            paths = [path for path, _ in parts_of_tree(tree)]
            pairs = [(source.choice(paths), source.choice(paths)) for _ in range(3)]
            many = fitting(vast(tree), pairs)
            results = [equated(vast(tree), pairs[:k]) for k in range(many + 1)]
            for k, general in enumerate(results):
                for special in results[k:]:
                    self.assertEqual(common_instance(general, special), special)


class Places(unittest.TestCase):
    def test_places(self):
        for name in ("common_instance", "common_instance_of", "equated", "fitting", "becomes"):
            self.assertEqual(getattr(module, name).__module__, "vasttypes.common")


if __name__ == "__main__":
    unittest.main()
