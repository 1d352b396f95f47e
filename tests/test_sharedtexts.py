"""Points 45 to 49: shared texts, how they are written and read."""

import random
import re
import unittest

from grammar import TREES, first_wrong
from samples import (INT, V0, fault, many_names, nested, of, other_values, parts_of_tree, random_tree, trees_within,
                     used_often)
from vasttypes import sharedtexts
from vasttypes.errors import InvalidBound, InvalidLines, InvalidPath, LimitExceeded
from vasttypes.graphs import made, towers, vast
from vasttypes.places import path_of
from vasttypes.sharedtexts import line_total, line_uses, read_lines, shared_lines, written
from vasttypes.trees import check_tree
from vasttypes.treetexts import mark_name

TEXTS = ["int", "bool", "'a", "{}", "{| 'a}", "{} * {}", "{| 'a} * {| 'b} * {| 'a}", "int -> int", "'a -> 'a -> 'a",
         "('a -> 'b) * ('a -> 'b)", "('a -> 'b) -> ('a -> 'b) -> ('a -> 'b) * 'a", "(int -> int) -> int -> int",
         "{x: {y: int}, z: {y: int}}", "('a * 'a) * ('b * 'b) * ('a * 'a)", "{x: 'a * 'b | 'c} -> {x: 'a * 'b | 'c} * ('a * 'b)",
         "(int * bool -> int) * (int * bool -> int) * (int * bool)", "((int -> bool) -> int -> bool) -> int -> bool"]


def lines_fault(lines):
    """Return the line and word of the InvalidLines that read_lines raises, None if it raises none."""
    try:
        read_lines(lines)
    except InvalidLines as error:
        return error.line, error.word
    except LimitExceeded:
        return None
    return None


def random_types(count, seed, levels=4, variables=3):
    source = random.Random(seed)
    trees = [random_tree(source, levels, variables) for _ in range(count)]
    return [vast(tree) for tree in trees if fault(check_tree, tree) is None]


def repeated(count, seed):
    """Return types in which parts occur again and again."""
    source = random.Random(seed)
    found = []
    while len(found) < count:
        pool = [INT, V0, ("var", 1), ("record", [], None)]
        for _ in range(source.randint(3, 7)):
            one, other = source.choice(pool[-4:]), source.choice(pool)
            pool.append(source.choice([("fun", one, other), ("fun", other, one), ("tuple", [one, other]),
                                       ("tuple", [other, one, other]), ("record", [("x", one), ("y", other)], None),
                                       ("record", [("z", one)], 7)]))
        if fault(check_tree, pool[-1]) is None and len(parts_of_tree(pool[-1])) < 120:
            found.append(vast(pool[-1]))
    return found


def small_types():
    bigs = [of(text) for text in TEXTS] + random_types(60, 1) + random_types(30, 2, 5, 2) + random_types(40, 3, 3, 1) + repeated(120, 9)
    # Types with many equal parts.
    return bigs + [made("tuple", [big, vast(INT)]) for big in bigs[5:9]] + [
        used_often(of(grow), 3, of("{x: 'a, y: int | 'b}"))
        for grow in ("'a -> 'a * 'a", "'a -> 'a -> 'a * int", "'a -> {a: 'a, b: 'a -> 'a, c: ('a * 'a) * 'a}")]


class Plain:
    """The shared text of a small type, found by a plain walk over its tree, and where each path is written."""

    def __init__(self, big):
        self.tree = big.tree()
        ended, places = {}, {}
        self.visit(self.tree, ended, places)
        lines = [text for text, tree in ended.items() if tree == self.tree or (
            tree[0] in ("fun", "tuple", "record") and len(places[text]) > 1)]
        self.numbers = {text: number for number, text in enumerate(lines)}
        self.spans = {}
        self.lines = [self.line(ended[text], number) for number, text in enumerate(lines)]
        self.uses = [sum(repr(tree) == text for _, tree in parts_of_tree(self.tree)) for text in lines]

    def visit(self, tree, ended, places):
        """Note the parts by their ends, and the places that lead to each, if each part is written once."""
        for step, inner in enumerate(trees_within(tree)):
            self.visit(inner, ended, places)
            places.setdefault(repr(inner), set()).add((repr(tree), step))
        ended.setdefault(repr(tree), tree)

    def line(self, tree, number):
        texts = []
        self.write(tree, None, texts, number, ())
        return "".join(texts)

    def write(self, tree, around, texts, line, way):
        """Write a part; the spans are kept by the line and the way from the beginning of the line."""
        key = repr(tree)
        first = sum(map(len, texts))
        if way and key in self.numbers:
            texts.append(f"#{self.numbers[key]}")
            return
        brackets = tree[0] in ("fun", "tuple") and around == "tuple" or tree[0] == "fun" and around == "taken"
        texts.append("(" if brackets else "")
        if tree[0] == "var":
            texts.append(mark_name(tree[1]))
        elif tree[0] in ("int", "bool"):
            texts.append(tree[0])
        elif tree[0] == "fun":
            self.write(tree[1], "taken", texts, line, way + (0,))
            texts.append(" -> ")
            self.write(tree[2], "fun", texts, line, way + (1,))
        elif tree[0] == "tuple":
            for step, inner in enumerate(tree[1]):
                texts.append(" * " if step else "")
                self.write(inner, "tuple", texts, line, way + (step,))
        else:
            texts.append("{")
            for step, (name, inner) in enumerate(tree[1]):
                texts.append(f", {name}: " if step else f"{name}: ")
                self.write(inner, "record", texts, line, way + (step,))
            texts.append("" if tree[2] is None else (" | " if tree[1] else "| ") + mark_name(tree[2]))
            texts.append("}")
        texts.append(")" if brackets else "")
        self.spans[line, way] = (line, first, sum(map(len, texts)))

    def written(self, path):
        line, way, tree = len(self.lines) - 1, (), self.tree
        for step in path:
            tree, way = trees_within(tree)[step], way + (step,)
            if repr(tree) in self.numbers:
                line, way = self.numbers[repr(tree)], ()
        return self.spans[line, way]


class Written(unittest.TestCase):
    def test_small_types(self):
        many = 0
        for big in small_types():
            plain = Plain(big)
            many += len(plain.lines) > 2
            self.assertEqual(shared_lines(big), plain.lines)
            self.assertEqual(line_total(big), len(plain.lines))
            self.assertEqual(line_uses(big), plain.uses)
            for path, _ in parts_of_tree(plain.tree):
                self.assertEqual(written(big, path), plain.written(path), (plain.lines, path))
            self.assertTrue(read_lines(plain.lines) == big)
        self.assertGreater(many, 30)

    def test_examples(self):
        for text, lines in (("{} * {}", ["{}", "#0 * #0"]), ("int * int", ["int * int"]), ("{}", ["{}"]),
                            ("{| 'a} * {| 'b} * {| 'a}", ["{| 'a}", "#0 * {| 'b} * #0"]), ("'a", ["'a"]),
                            ("(int -> 'a) -> (int -> 'a) * 'a", ["int -> 'a", "#0 -> #0 * 'a"]),
                            ("(int * bool -> int) * (int * bool -> int) * (int * bool)",
                             ["int * bool", "#0 -> int", "#1 * #1 * #0"]),
                            ("((int -> int) -> int) * ((int -> int) -> int)", ["(int -> int) -> int", "#0 * #0"])):
            self.assertEqual(shared_lines(of(text)), lines)
        big = of("((int -> int) -> int) * ((int -> int) -> int) * bool")
        self.assertEqual([written(big, path) for path in ((), (0,), (1,), (1, 0), (0, 0, 1), (0, 1), (2,))],
                         [(1, 0, 14), (0, 0, 19), (0, 0, 19), (0, 0, 12), (0, 8, 11), (0, 16, 19), (1, 10, 14)])

    def test_towers(self):
        for n in (1, 2, 10, 300, 400):
            big = towers(n)
            lines = ["'a * 'a"] + [f"#{k} * #{k}" for k in range(n - 1)]
            self.assertEqual(shared_lines(big), lines)
            self.assertEqual(line_total(big), n)
            self.assertEqual(line_uses(big), [2 ** (n - k) for k in range(1, n + 1)])
            self.assertEqual(written(big, (1,) * n), (0, 5, 7))
            self.assertEqual(written(big, (0,) * (n - 1)), (0, 0, len(lines[0])))
            self.assertTrue(read_lines(lines) == big)
        self.assertEqual(shared_lines(towers(0)), ["'a"])
        self.assertEqual(line_uses(towers(0)), [1])

    def test_wrong_paths(self):
        for path in [(2,), (0,) * 301, (-1,), (True,), [], [0], None, "0", 0,
                     nested(2000, lambda value: (value,), 0)] + other_values():
            with self.assertRaises(InvalidPath) as caught:
                written(towers(300), path)
            self.assertTrue(caught.exception.path is path)

    def test_fewest_lines(self):
        for big in small_types()[:60]:
            plain = Plain(big)
            # A line less leaves a part that two places lead to, which would be written twice.
            for number in range(len(plain.lines) - 1):
                self.assertGreater(len(re.findall(f"#{number}(?![0-9])", " ".join(shared_lines(big)))), 1)


class Read(unittest.TestCase):
    def check(self, lines):
        """Compare what read_lines tells of lines with what a grammar tells of each."""
        for number, line in enumerate(lines):
            grammar = dict(TREES)
            grammar["ATOM"] = TREES["ATOM"] + [tuple(f"#{k}") for k in range(number)]
            wrong = first_wrong(grammar, line)
            if wrong is not None:
                self.assertEqual(lines_fault(lines), (number, wrong), lines)
                return False
        return True

    def test_changed_lines(self):
        source = random.Random(4)
        texts = [["int", "'a -> 'b", "(#0 -> #1) * {x: #1, y: {| 'c}} * ('a * #0)"],
                 ["{x: int}"] + ["bool"] * 11 + ["#0 * #10 -> {a: #11 -> #1, bb: (#9 -> #0) -> #3 | 'z}"],
                 ["{}", "{| 'ab}", "#1 -> #1 * (#0 * #0) * (int -> #0)"], ["'a * 'a", "#0 * #0", "#1"]]
        right = 0
        for lines in texts:
            self.assertTrue(self.check(lines))
            for number, line in enumerate(lines):
                for at in range(len(line) + 1):
                    for sign in ["", source.choice("#0123456789"), source.choice("(){}:,|'*- >"), source.choice("aintbolz")]:
                        changed = [line[:at] + sign + line[at:], line[:at] + sign + line[at + 1:], line[:at] + sign]
                        for new in changed:
                            right += self.check(lines[:number] + [new] + lines[number + 1:])
        self.assertGreater(right, 100)

    def test_numbers_of_lines(self):
        for lines, expected in ((["#0"], (0, 0)), (["int", "#0"], None), (["int", "#1"], (1, 1)), (["int", "#"], (1, 1)),
                                (["int", "#00"], (1, 2)), (["int", "#01"], (1, 2)), (["int", "#-1"], (1, 1)),
                                (["int", "# 0"], (1, 1)), (["int", "(#0)"], (1, 3)), (["int", "(#0 -> int)"], (1, 11)),
                                (["int", "#0 -> #0"], None), (["int", "#0 * (#0 -> #0)"], None), (["int", "#0#0"], (1, 2)),
                                (["int"] * 12 + ["#11"], None), (["int"] * 12 + ["#12"], (12, 2)),
                                (["int"] * 12 + ["#2"], None), (["int"] * 12 + ["#20"], (12, 2)),
                                (["int"] * 12 + ["#110"], (12, 3)), (["int"] * 12 + ["#9", "#12"], None),
                                (["int", "{x: #0}", "{x: #0 | 'a}", "{#0}"], (3, 1)), (["int", "#0 "], (1, 3)),
                                (["int * int", "(#0) * int"], (1, 3)), (["int -> int", "#0 -> int"], None),
                                (["int -> int", "(#0) -> int"], (1, 3)), (["#0", 1], (0, 0)), (["int", 1], (1, -1))):
            self.assertEqual(lines_fault(lines), expected, lines)

    def test_meanings(self):
        for lines, text in ((["int -> int", "#0 -> #0"], "(int -> int) -> int -> int"), (["'b", "'a -> #0"], "'a -> 'b"),
                            (["int * int", "#0 * #0"], "(int * int) * (int * int)"), (["bool", "int"], "int"),
                            (["'q", "{x: #0, y: 'q -> 'p | 'zz}"], "{x: 'a, y: 'a -> 'b | 'c}"), (["'abcdefghijk"], "'a"),
                            (["{x: 'b | 'c}", "{x: 'd | 'c}", "#1 * #0"], "{x: 'a | 'b} * {x: 'c | 'b}"),
                            (["{}", "#0", "#1 -> #0"], "{} -> {}"), (["int * int", "#0 -> #0 * int"],
                                                                     "int * int -> (int * int) * int")):
            self.assertTrue(read_lines(lines) == of(text), lines)
            self.assertTrue(read_lines(lines=list(lines)) == of(text))

    def test_values(self):
        for lines in [[], ["int"] * 1001, ("int",), (), "int", "", None, 1, {"int": 1}] + other_values():
            self.assertEqual(lines_fault(lines), (-1, -1))
        for value in [None, 1, True, ["int"], ("int",), b"int", {}, nested(2000, lambda held: [held])] + other_values():
            for lines, number in (([value], 0), (["int", value, "("], 1), (["int", "#0", value], 2)):
                if not isinstance(value, str):
                    self.assertEqual(lines_fault(lines), (number, -1))
        self.assertEqual(lines_fault([""]), (0, 0))
        self.assertTrue(read_lines(["int"] * 1000) == of("int"))

    def test_faults_behind_all_lines(self):
        many = "{" + ", ".join(f"{name}: int" for name in many_names(400)) + "}"
        more = "{" + ", ".join(f"{name}: int" for name in many_names(401)) + "}"
        six, seven = " * ".join(["int"] * 6), " * ".join(["int"] * 7)
        for lines, expected in ((["{b: int, a: int}"], (0, 9)), (["{a: int, a: int}"], (0, 9)), (["{a: int, c: int, b: int}"], (0, 17)),
                                (["{a: int, c: int, c: int}"], (0, 17)), (["{a: int, b: int, c: int}"], None), ([many], None),
                                ([more], (0, more.index("pk:"))), ([six], None), ([seven], (0, 36)),
                                (["int", "#0 * #0 * #0 * #0 * #0 * #0 * (int -> int)"], (1, 30)),
                                (["{x: " + seven + "}"], (0, 40)), (["(" + seven + ") * int"], (0, 37)),
                                (["'a", "{| 'a}"], (1, 3)), (["{| 'a}", "int -> 'a"], (1, 7)),
                                (["{x: 'a | 'a}"], (0, 9)), (["{x: int | 'a}", "{y: int | 'a}"], (1, 10)),
                                (["{x: int | 'a}", "{x: 'b | 'a}"], None), (["{x: int | 'a}", "{| 'a} * int"], (1, 3)),
                                (["{x: int | 'a}", "{x: {| 'a} | 'a}"], (1, 7)), (["{| 'a}", "'a", "int"], (1, 0)),
                                (["{x: int | 'a} * 'a", "{b: int, a: 'a}"], (0, 16)),
                                (["{b: {d: int, c: int}, a: int}"], (0, 13)), (["{b: int, a: int}", "int ->"], (1, 6)),
                                (["{| 'a} * 'a", "("], (1, 1)), (["{b: int, a: int}", None], (1, -1)),
                                (["{b: int, a: {| 'a}, c: 'a}"], (0, 9)),
                                (["{a: int * int * int * int * int * int * {c: int, b: int}}"], (0, 40)),
                                (["{a: {c: int, b: int} * int * int * int * int * int * int}"], (0, 13))):
            self.assertEqual(lines_fault(lines), expected, lines)

    def test_limit(self):
        lines = [f"{{a{chr(97 + k // 26)}{chr(97 + k % 26)}: int}}" for k in range(500)]
        wide = lines + ["{" + ", ".join(f"{name}: #{k}" for k, name in enumerate(many_names(400))) + "}"]
        self.assertEqual(read_lines(wide).node_total(), 402)
        self.assertEqual(read_lines(["int -> 'a"] + [f"#{k} -> 'a" for k in range(997)]).node_total(), 1000)
        self.assertEqual(fault(read_lines, ["int -> 'a"] + [f"#{k} -> 'a" for k in range(998)]), (LimitExceeded, 1000))
        # What is not used does not count, and what is wrong comes first.
        self.assertTrue(read_lines(["int -> 'a"] + [f"#{k} -> 'a" for k in range(998)] + ["int"]) == of("int"))
        self.assertEqual(lines_fault(["{| 'a} -> int"] + [f"#{k} -> int -> 'a" for k in range(998)]), (1, 13))

    def test_deep_lines(self):
        for line in ("(" * 2000 + "int -> int" + ") -> int" * 2000, "{x: " * 2000 + "int" + "}" * 2000,
                     "int -> " * 2000 + "int"):
            self.assertEqual(fault(read_lines, [line]), (LimitExceeded, 1000))
        for line in ("(" * 2000, "{x: " * 2000, "(int * " * 2000, "int -> (" * 2000):
            self.assertEqual(lines_fault([line]), (0, len(line)))
        for line, height in (("{x: " * 900 + "'a" + "}" * 900, 901), ("int -> " * 900 + "int", 901),
                             ("(" * 899 + "int -> int" + ") -> int" * 899, 901)):
            big = read_lines([line])
            self.assertEqual(big.height(), height)
            self.assertEqual(shared_lines(big), [line])


class Vast(unittest.TestCase):
    def test_there_and_back(self):
        steps = ["'a * 'b -> 'b * ('a * 'b)", "'a * 'b -> ('b -> 'a) * 'a", "'a * 'b -> {x: 'b, y: 'a} * {x: 'a, y: 'b}",
                 "'a * 'b -> ('a -> 'b) * ('a -> 'b)", "'a * 'b -> ('a * 'b -> int) * {x: 'a * 'b}"]
        source = random.Random(5)
        for many in (50, 200, 300):
            big = of("'a * {x: 'a | 'b}")
            for _ in range(many):
                big = used_often(of(source.choice(steps)), 1, big)
            lines = shared_lines(big)
            self.assertEqual(len(lines), line_total(big))
            self.assertTrue(read_lines(lines) == big)
            uses = line_uses(big)
            self.assertEqual([len(uses), uses[-1]], [len(lines), 1])
            for path in ((0,), (1,), (0, 1), (1, 1, 0)):
                if fault(big.part, path) is None:
                    line, first, after = written(big, path)
                    self.assertTrue(0 <= line < len(lines) and 0 <= first < after <= len(lines[line]))

    def test_equality(self):
        bigs = small_types()
        for one in bigs[:80]:
            for other in bigs[:80]:
                self.assertIs(one == other, shared_lines(one) == shared_lines(other))

    def test_deep_types(self):
        for grow, many, root in (("'a -> 'a * 'a", 599, towers(400)), ("'a -> int -> 'a", 990, vast(V0)),
                                 ("'a -> 'a -> int", 990, vast(V0)), ("'a * 'b -> 'b * ('a * 'b)", 990, of("'a * 'b"))):
            big = used_often(of(grow), many, root)
            lines = shared_lines(big)
            self.assertTrue(read_lines(lines) == big)
            for _ in range(100):
                self.assertEqual(len(written(big, path_of(big, big.tree_size() // 3))), 3)
                self.assertEqual(len(line_uses(big)), line_total(big))

    def test_results_are_new(self):
        big = of("('a * 'b) * ('a * 'b)")
        for function in (shared_lines, line_uses):
            function(big=big).clear()
            self.assertEqual(len(function(big)), 2)
        lines = shared_lines(big)
        read_lines(lines)
        self.assertEqual(lines, ["'a * 'b", "#0 * #0"])
        self.assertEqual([line_total(big=big), written(path=(1,), big=big)], [2, (0, 0, 7)])

    def test_places(self):
        for name in ("shared_lines", "line_total", "line_uses", "written", "read_lines"):
            self.assertEqual(getattr(sharedtexts, name).__module__, "vasttypes.sharedtexts")
        self.assertTrue(issubclass(InvalidLines, ArithmeticError) and not issubclass(InvalidLines, InvalidBound))


if __name__ == "__main__":
    unittest.main()
