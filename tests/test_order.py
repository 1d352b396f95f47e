"""Points 18 and 35 to 39: instances, choices, common general types, and the order of types."""

import random
import unittest

from plain import numbered
from samples import (BOOL, INT, V0, V1, fault, of, other_values, random_tree, text_of, trees_within,
                     used_often)
from vasttypes import order as orders
from vasttypes.common import common_instance, common_instance_of, equated
from vasttypes.errors import InvalidBound, LimitExceeded
from vasttypes.graphs import made, towers, vast
from vasttypes.order import choice, common_general, common_general_of, is_instance, order, tops
from vasttypes.trees import check_tree, renumbered, substituted

# A general type, another one, and the texts of the items of the choice, None for no instance.
CHOICES = [
    ("'a", "int", ["int"]), ("int", "'a", None), ("'a", "'a -> 'b", ["'a -> 'b"]), ("'a -> 'b", "int -> int", ["int", "int"]),
    ("'a -> 'a", "int -> int", ["int"]), ("'a -> 'a", "int -> bool", None), ("'a -> 'a", "'a -> 'b", None),
    ("'a -> 'b", "'a -> 'a", ["'a", "'a"]), ("'a * 'b", "int * int * int", None), ("int -> int", "int * int", None),
    ("{x: 'a | 'b}", "{x: int}", ["int", ([], False)]), ("{x: 'a | 'b}", "{x: int | 'a}", ["int", ([], True)]),
    ("{x: 'a | 'b}", "{x: int, y: bool}", ["int", ([("y", "bool")], False)]),
    ("{x: 'a | 'b}", "{a: 'a, x: 'a, y: bool | 'b}", ["'a", ([("a", "'a"), ("y", "bool")], True)]),
    ("{x: 'a | 'b}", "{y: int | 'a}", None), ("{x: 'a}", "{x: int | 'a}", None), ("{x: 'a}", "{x: int, y: int}", None),
    ("{x: 'a, y: int}", "{x: int}", None), ("{| 'a}", "{}", [([], False)]), ("{| 'a}", "{| 'a}", [([], True)]),
    ("{}", "{| 'a}", None), ("{| 'a} -> 'b", "{x: 'a -> 'b} -> 'a", [([("x", "'a -> 'b")], False), "'a"]),
    ("{| 'a} * {| 'a}", "{x: int | 'b} * {x: int | 'b}", [([("x", "int")], True)]),
    ("{| 'a} * {| 'a}", "{x: int | 'b} * {x: int | 'c}", None), ("{| 'a} * {| 'a}", "{x: int} * {x: int | 'c}", None),
    ("{| 'a} * {| 'a}", "{x: int} * {x: bool}", None), ("{| 'a} * {| 'b}", "{x: int} * {x: bool}",
                                                        [([("x", "int")], False), ([("x", "bool")], False)]),
    ("{| 'a} * {| 'b}", "{| 'a} * {| 'a}", [([], True), ([], True)]),
    ("{x: 'a | 'b} -> 'a", "{x: int, y: 'a | 'b} -> int", ["int", ([("y", "'a")], True)]),
    ("{x: 'a | 'b} * {x: 'c | 'b}", "{x: int, y: 'a} * {x: bool, y: 'a}", ["int", ([("y", "'a")], False), "bool"]),
    ("{x: 'a | 'b} * {x: 'c | 'b}", "{x: int, y: 'a} * {x: bool, y: 'b}", None), ("int", "int", []), ("int", "bool", None),
    ("('a -> 'b) -> 'b -> 'a", "(int -> 'a * 'a) -> 'a * 'a -> int", ["int", "'a * 'a"]),
]

# Two types and their least general one.
GENERALS = [
    ("int", "int", "int"), ("int", "bool", "'a"), ("'a", "int", "'a"), ("'a", "'a", "'a"), ("int -> int", "bool -> bool", "'a -> 'a"),
    ("int -> bool", "bool -> int", "'a -> 'b"), ("{x: int, y: int}", "{x: int, z: int}", "{x: int | 'a}"),
    ("{x: int}", "{x: bool}", "{x: 'a}"), ("{x: int}", "{x: int | 'a}", "{x: int | 'a}"), ("{x: int}", "{y: int}", "{| 'a}"),
    ("{}", "{}", "{}"), ("{}", "{x: int}", "{| 'a}"), ("{}", "int", "'a"), ("int * int", "int * int * int", "'a"),
    ("int * int", "int -> int", "'a"), ("'a -> 'b", "'a -> 'a", "'a -> 'b"), ("'a * 'a", "'a * 'b", "'a * 'b"),
    ("'a * 'a * 'b", "'a * 'b * 'b", "'a * 'b * 'c"), ("'a * 'b * 'a", "'a * 'b * 'a", "'a * 'b * 'a"),
    ("{x: int} * {x: int}", "{y: int} * {y: int}", "{| 'a} * {| 'a}"),
    ("{x: int} * {x: int}", "{y: int} * {y: bool}", "{| 'a} * {| 'b}"),
    ("{x: int} * {x: int}", "{x: int | 'a} * {x: int | 'a}", "{x: int | 'a} * {x: int | 'a}"),
    ("{x: int} * {x: int}", "{x: int | 'a} * {x: int | 'b}", "{x: int | 'a} * {x: int | 'b}"),
    ("{x: int, y: bool} * {x: bool, y: bool}", "{x: int, z: bool} * {x: int, z: bool}",
     "{x: int | 'a} * {x: 'b | 'a}"),
    ("{x: int, y: bool} * {y: bool}", "{x: int, z: bool} * {z: bool}", "{x: int | 'a} * {| 'b}"),
    ("{x: int, y: int | 'a} * {x: int, y: int | 'a}", "{x: int | 'a} * {x: int | 'a}", "{x: int | 'a} * {x: int | 'a}"),
    ("int * {x: int} * {y: int} * {z: int}", "bool * {a: int} * {b: int} * {c: int}", "'a * {| 'b} * {| 'c} * {| 'd}"),
    ("(int -> bool) * int", "(int -> int) * 'a", "(int -> 'a) * 'b"), ("(int -> bool) * bool", "(int -> int) * int",
                                                                      "(int -> 'a) * 'a"),
]


def random_types(count, seed, levels=4, variables=3):
    source = random.Random(seed)
    trees = [random_tree(source, levels, variables) for _ in range(count)]
    return [vast(tree) for tree in trees if fault(check_tree, tree) is None]


def matched(general, special, table):
    """Tell whether a tree becomes another one, and keep in a table what its marks become."""
    if general[0] == "var":
        return table.setdefault(("var", general[1]), special) == special
    if general[0] != special[0]:
        return False
    if general[0] == "record":
        fields, others = dict(general[1]), dict(special[1])
        more = [(name, tree) for name, tree in special[1] if name not in fields]
        if any(name not in others for name in fields) or (general[2] is None and (more or special[2] is not None)):
            return False
        if general[2] is not None and table.setdefault(("tail", general[2]), (more, special[2])) != (more, special[2]):
            return False
        return all([matched(tree, others[name], table) for name, tree in general[1]])
    inner, others = trees_within(general), trees_within(special)
    return len(inner) == len(others) and all([matched(one, other, table) for one, other in zip(inner, others)])


def generalized(trees, table):
    """Return the least general tree above several ones; the table has the marks for what stands at their places."""
    def mark(key):
        return table.setdefault(repr(key), len(table))
    words = {tree[0] for tree in trees}
    if words == {"record"}:
        names = [name for name, _ in trees[0][1] if all(name in dict(tree[1]) for tree in trees)]
        rest = [([field for field in tree[1] if field[0] not in names], tree[2]) for tree in trees]
        fields = [(name, generalized([dict(tree[1])[name] for tree in trees], table)) for name in names]
        is_open = any(more or tail is not None for more, tail in rest)
        return ("record", fields, mark((names, rest)) if is_open else None)
    inner = [trees_within(tree) for tree in trees]
    if len(words) > 1 or words == {"var"} or len({len(held) for held in inner}) > 1:
        return ("var", mark(trees))
    within = [generalized(list(held), table) for held in zip(*inner)]
    return ("tuple", within) if words == {"tuple"} else (trees[0][0], *within)


def general_tree(bigs):
    return numbered(generalized([big.tree() for big in bigs], {}))


def shown(item):
    return ([(name, text_of(big)) for name, big in item[0]], item[1]) if isinstance(item, tuple) else text_of(item)


def shown_choice(found):
    return None if found is None else [shown(item) for item in found]


class Choices(unittest.TestCase):
    def test_examples(self):
        for general, special, expected in CHOICES:
            found = choice(of(general), of(special))
            self.assertEqual(shown_choice(found), expected, (general, special))
            self.assertIs(is_instance(of(special), of(general)), expected is not None)

    def test_random_pairs(self):
        bigs = random_types(70, 1, 3) + random_types(40, 2, 2)
        seen = 0
        for general in bigs:
            for special in bigs:
                expected = matched(general.tree(), special.tree(), {})
                seen += expected
                self.assertIs(is_instance(special=special, general=general), expected)
                self.assertEqual(choice(general, special) is not None, expected)
        self.assertGreater(seen, 300)

    def test_chosen_instances(self):
        source = random.Random(3)
        bigs = random_types(60, 4)
        for big in bigs:
            table, expected = {}, []
            for mark, (word, _) in enumerate(big.variables()):
                more = source.choice(bigs)
                if word == "var":
                    table[mark] = more.tree()
                    expected.append(more)
                else:
                    fields = [("q", INT)] * source.randint(0, 1)
                    table[mark] = (fields, None)
                    expected.append(([("q", vast(INT)) for _ in fields], False))
            tree = big.tree()
            if fault(substituted, tree, table) is None:
                special = vast(substituted(tree, table))
                found = choice(general=big, special=special)
                self.assertEqual(len(found), len(expected))
                for item, wanted in zip(found, expected):
                    self.assertTrue(item == wanted)

    def test_large_types(self):
        self.assertTrue(is_instance(towers(400), towers(300)))
        self.assertFalse(is_instance(towers(300), towers(400)))
        self.assertTrue(choice(towers(200), towers(300)) == [towers(100)])
        crossed = used_often(of("'a * 'b -> 'b * ('a * 'b)"), 400, of("'a * 'b"))
        found = choice(crossed, used_often(of("'a * 'b -> 'b * ('a * 'b)"), 400, made("tuple", [towers(3), vast(INT)])))
        self.assertTrue(found == [towers(3), vast(INT)] or found == [vast(INT), towers(3)])
        self.assertIsNone(choice(made("tuple", [towers(300), towers(300)]), made("tuple", [towers(300), vast(INT)])))
        self.assertIsNone(choice(towers(301), made("tuple", [towers(300), towers(300)])))

    def test_types_of_their_own(self):
        general, special = of("'a -> 'b"), of("int * 'a -> 'b * 'a")
        found = choice(general, special)
        self.assertEqual(shown_choice(found), ["int * 'a", "'a * 'b"])
        found.append(None)
        self.assertEqual(shown_choice(choice(general, special)), ["int * 'a", "'a * 'b"])
        self.assertEqual([text_of(general), text_of(special)], ["'a -> 'b", "int * 'a -> 'b * 'a"])


class General(unittest.TestCase):
    def test_examples(self):
        for one, other, expected in GENERALS:
            self.assertEqual(text_of(common_general(of(one), of(other))), expected, (one, other))
            self.assertTrue(common_general(of(other), of(one)) == of(expected), (one, other))

    def test_random_pairs(self):
        bigs = random_types(60, 5)
        for first in bigs:
            for second in bigs[:30]:
                found = common_general(first=first, second=second)
                self.assertEqual(found.tree(), general_tree([first, second]))
                self.assertTrue(found == common_general(second, first))
                self.assertTrue(is_instance(first, found) and is_instance(second, found))
                self.assertIs(found == first, is_instance(second, first))

    def test_several(self):
        source = random.Random(6)
        bigs = random_types(60, 7)
        for many in (1, 2, 3, 4, 7, 20):
            for _ in range(12):
                chosen = [source.choice(bigs) for _ in range(many)]
                found = common_general_of(chosen)
                self.assertEqual(found.tree(), general_tree(chosen))
                folded = chosen[0]
                for big in chosen[1:]:
                    folded = common_general(folded, big)
                self.assertTrue(found == folded)
                source.shuffle(chosen)
                self.assertTrue(found == common_general_of(bigs=tuple(chosen)))

    def test_large_types(self):
        self.assertTrue(common_general(towers(300), towers(200)) == towers(200))
        self.assertTrue(common_general_of([towers(n) for n in range(400, 380, -1)]) == towers(381))
        step = of("'a * 'b -> 'b * ('a * 'b)")
        one = used_often(step, 300, of("'a * 'b"))
        self.assertTrue(common_general(one, used_often(step, 300, of("'a * 'a"))) == one)
        self.assertTrue(common_general(used_often(step, 300, of("int * bool")), used_often(step, 300, of("bool * int")))
                        == one)

    def test_limit(self):
        # Part number i of the first is a tuple of parts i - 1 and i - 2, so it meets many parts of a tower.
        totals = []
        for many in range(2, 70):
            first = used_often(of("'a * 'b -> ('a * 'b) * 'a"), many - 2, of("int * bool"))
            self.assertEqual(first.node_total(), many + 1)
            found, waiting = set(), [(many, many)]
            while waiting:
                i, j = waiting.pop()
                if (i, j) not in found:
                    found.add((i, j))
                    waiting.extend([(i - 1, j - 1), (i - 2, j - 1)] if i >= 2 and j >= 1 else [])
            totals.append(len(found))
            for bigs in ([first, towers(many)], [towers(many), first], [first, towers(many), first]):
                if len(found) > 1000:
                    self.assertEqual(fault(common_general, *bigs[:2]), (LimitExceeded, 1000))
                    self.assertEqual(fault(common_general_of, bigs), (LimitExceeded, 1000))
                else:
                    self.assertEqual(common_general_of(bigs).node_total(), len(found))
        self.assertTrue(any(970 < total <= 1000 for total in totals) and totals[-1] > 1000)

    def test_what_comes_up_on_the_way(self):
        one, other = used_often(of("'a * 'b -> ('a * 'b) * 'a"), 90, of("int * bool")), towers(92)
        self.assertEqual(fault(common_general, one, other), (LimitExceeded, 1000))
        for third, expected in (("int", "'a"), ("int * bool", "'a * 'b"), ("(int * int) * int", "('a * 'b) * 'c")):
            bigs = [one, other, of(third)]
            for chosen in (bigs, bigs[::-1], [bigs[0], bigs[2], bigs[1]]):
                self.assertEqual(text_of(common_general_of(chosen)), expected)

    def test_wrong_lists(self):
        big = towers(1)
        for bigs in [[], (), [big] * 21, (big,) * 21, [big, None], [V0], big, {0: big}, "no", None] + other_values():
            self.assertEqual(fault(common_general_of, bigs), (InvalidBound, "bigs"))


class Orders(unittest.TestCase):
    def test_answers(self):
        for first, second, expected in (("'a", "'a", "same"), ("'a", "int", "above"), ("int", "'a", "below"),
                                        ("int", "bool", "apart"), ("'a -> 'b", "'a -> 'a", "above"),
                                        ("'a -> int", "int -> 'a", "apart"), ("{| 'a}", "{}", "above"),
                                        ("{x: int}", "{x: int | 'a}", "below"), ("{x: int}", "{y: int}", "apart")):
            self.assertEqual(order(of(first), second=of(second)), expected)

    def test_random_pairs(self):
        bigs = random_types(50, 8, 3) + random_types(20, 9, 2)
        for first in bigs:
            for second in bigs:
                up, down = is_instance(second, first), is_instance(first, second)
                expected = {(True, True): "same", (True, False): "above", (False, True): "below", (False, False): "apart"}
                self.assertEqual(order(first, second), expected[up, down])
                self.assertIs(up and down, first == second)

    def test_tops(self):
        bigs = random_types(60, 10, 2) + random_types(30, 11, 3)
        source = random.Random(12)
        for many in (0, 1, 2, 5, 20, 20, 20):
            chosen = [source.choice(bigs) for _ in range(many)]
            expected = [k for k, big in enumerate(chosen) if all(order(big, other) != "below" for other in chosen)]
            self.assertEqual(tops(chosen), expected)
            self.assertEqual(tops(bigs=tuple(chosen)), expected)
        self.assertEqual(tops([of("int"), of("'a"), of("int"), of("'a")]), [1, 3])
        self.assertEqual(tops([towers(n) for n in range(20)]), [0])
        self.assertEqual(tops([of("int"), of("bool"), of("int")]), [0, 1, 2])

    def test_wrong_lists(self):
        big = towers(1)
        for bigs in [[big] * 21, (big,) * 21, [big, None], [V0], big, {0: big}, "no", None] + other_values():
            self.assertEqual(fault(tops, bigs), (InvalidBound, "bigs"))


class Facts(unittest.TestCase):
    def test_facts(self):
        bigs = random_types(45, 13, 3) + random_types(30, 14)
        for first in bigs:
            self.assertTrue(is_instance(first, first))
            for second in bigs:
                self.assertIs(common_general(first, second) == first, is_instance(second, first))
                common = common_instance(first, second)
                self.assertIs(common is not None and common == first, is_instance(first, second))
                general = common_general(first, second)
                self.assertTrue(common_instance(first, general) == first)
                if common is not None:
                    self.assertTrue(common_general(first, common) == first)
                    self.assertTrue(is_instance(common, first) and is_instance(common, second))

    def test_equated(self):
        big = of("'a * (int -> 'b) * 'b * ('a -> 'c)")
        found = equated(big, [((0,), (1,))])
        self.assertTrue(is_instance(found, big))
        self.assertTrue(is_instance(equated(big, [((0,), (1,)), ((2,), (3, 1))]), found))

    def test_general_is_least(self):
        bigs = random_types(40, 15, 3)
        for first in bigs[:20]:
            for second in bigs[20:]:
                general = common_general(first, second)
                for above in bigs:
                    if is_instance(first, above) and is_instance(second, above):
                        self.assertTrue(is_instance(general, above))


class Largest(unittest.TestCase):
    def test_deep_types(self):
        deep = used_often(of("'a -> 'a * 'a"), 599, towers(400))
        right = used_often(of("'a -> int -> 'a"), 990, vast(V0))
        for big in (deep, right):
            for _ in range(10):
                self.assertTrue(is_instance(big, big) and common_general(big, big) == big)
                self.assertTrue(choice(big, big) == [vast(V0)])
        self.assertEqual(tops([deep] * 20), list(range(20)))
        self.assertTrue(common_general_of([deep] * 20) == deep)
        self.assertEqual(order(deep, right), "apart")

    def test_many_calls(self):
        general, special = of("{x: 'a, y: 'b | 'c} -> 'a * 'b"), of("{x: int, y: bool, z: 'a | 'c} -> int * bool")
        for _ in range(500):
            self.assertTrue(is_instance(special, general) and common_general(special, general) == general)

    def test_places(self):
        for name in ("is_instance", "choice", "common_general", "common_general_of", "order", "tops"):
            self.assertEqual(getattr(orders, name).__module__, "vasttypes.order")
        self.assertEqual([renumbered(V1), BOOL], [V0, ("bool",)])
        self.assertTrue(common_instance_of([of("'a")]) == common_general_of([of("'a")]))


if __name__ == "__main__":
    unittest.main()
