"""Points 27, 29 and 30: words, and how often and where they occur."""

import random
import re
import unittest

from samples import INT, V0, fault, many_names, no_integers, of, other_values, random_tree, used_often
from vasttypes import textwords
from vasttypes.errors import InvalidBound
from vasttypes.graphs import made, towers, vast
from vasttypes.signs import text_length, window
from vasttypes.textwords import counted, counted_before, place, word_at, word_over, word_total
from vasttypes.trees import check_tree
from vasttypes.treetexts import tree_text

TEXTS = ["int", "bool", "'a", "{}", "{| 'a}", "{x: int}", "{x: int, yy: 'a | 'b}", "int -> bool",
         "(int -> 'a) -> 'a -> int", "int * bool", "('a * 'a) * ('a * 'a)", "(int -> int) * 'a * {x: int * bool}",
         "int * 'a -> (bool -> int) * {| 'b}", "{x: int -> bool, y: {z: (int -> int) -> int | 'a} | 'b}",
         "((int * int) * int -> int) -> int", "{a: 'a, bool: int, int: bool -> 'a | 'b}", "{} * {} * {| 'a} * {}",
         "{abcdefgh: {a: {b: 'a | 'b} | 'c} | 'd}"]

WORDS = re.compile(r"'[a-z]+|[a-z]+:|int|bool|->|[*(){},|]")

NO_WORDS = ["x", ":", "'", "'A", " ", "", "abcdefghi:", "-", ">", "- >", " ->", "int ", "Int", "x :", "X:", "x1:", "'a1",
            "'a ", "''", "'a'", "'a:", "()", "{}", "::", "x::", "#0", "\n", "integer", ["int"], ("int",), {"int"}, b"int",
            {"int": 1}, INT] + no_integers()[3:] + other_values()


def random_types(count, seed):
    """Return a list of tuples (big, text)."""
    source = random.Random(seed)
    trees = [random_tree(source, 4, source.choice([1, 3, 40])) for _ in range(count)]
    return [(vast(tree), tree_text(tree)) for tree in trees if fault(check_tree, tree) is None]


def many_variables():
    """Return a type with 730 variables, so that names have one, two and three letters."""
    trees = [("record", [(name, ("var", first + k)) for k, name in enumerate(many_names(365))], None)
             for first in (0, 365)]
    tree = ("tuple", trees)
    return vast(tree), tree_text(tree)


def words_of(text):
    """Return the list of tuples (word, first) of a text."""
    found = [(match[0], match.start()) for match in WORDS.finditer(text)]
    assert sum(len(word) for word, _ in found) == len(text.replace(" ", ""))
    return found


def over(text):
    """Return what word_over must return for every sign."""
    found, seen = [], {}
    at = 0
    for word, first in words_of(text) + [("", len(text))]:
        for _ in range(at, first):
            found.append((" ", seen.get(" ", 0), 0))
            seen[" "] = seen.get(" ", 0) + 1
        found.extend([(word, seen.get(word, 0), offset) for offset in range(len(word))])
        seen[word] = seen.get(word, 0) + 1
        at = first + len(word)
    return found


class Small(unittest.TestCase):
    def all_types(self):
        return [(of(text), text) for text in TEXTS] + random_types(120, 1)

    def test_words(self):
        for big, text in self.all_types() + [many_variables()]:
            words = words_of(text)
            self.assertEqual(word_total(big), len(words), text)
            self.assertEqual([word_at(big, k) for k in range(len(words))], words)

    def test_every_sign(self):
        for big, text in self.all_types():
            self.assertEqual([word_over(big, k) for k in range(len(text))], over(text), text)

    def test_long_names(self):
        big, text = many_variables()
        expected = over(text)
        for k in list(range(0, len(text), 29)) + list(range(len(text) - 60, len(text))):
            self.assertEqual(word_over(big, k), expected[k])
        for word in ("'a", "'z", "'aa", "'zz", "'aaa", "'abb", "'abc", "aa:", "oa:", "zz:", "{", ","):
            firsts = [first for held, first in words_of(text) if held == word]
            self.assertEqual(counted(big, word), len(firsts), word)
            self.assertEqual([place(big, word, k) for k in range(len(firsts))], firsts)

    def test_every_word(self):
        for big, text in self.all_types():
            words = words_of(text)
            for word in sorted({held for held, _ in words}) + ["'zzz", "q:", "abcdefgh:", "'abcdefghijk", "int:", "|"]:
                firsts = [first for held, first in words if held == word]
                self.assertEqual(counted(big, word), len(firsts), (text, word))
                self.assertEqual([place(big, word, k) for k in range(len(firsts))], firsts)
                self.assertEqual([counted_before(big, word, k) for k in range(len(text) + 1)],
                                 [len([first for first in firsts if first < k]) for k in range(len(text) + 1)])
                self.assertEqual(fault(place, big, word, len(firsts)), (InvalidBound, "k"))

    def test_names_of_fields_like_words(self):
        big = of("{a: 'a, bool: int, int: bool -> 'a | 'b}")
        self.assertEqual([counted(big, word) for word in ("a:", "'a", "bool:", "bool", "int:", "int", "x:", "'b", "|")],
                         [1, 2, 1, 1, 1, 1, 0, 1, 1])
        self.assertEqual(word_at(big, 4), ("bool:", 8))
        self.assertEqual(word_over(big, 12), ("bool:", 0, 4))


class Vast(unittest.TestCase):
    def test_towers(self):
        for n in (1, 2, 3, 10, 300, 400):
            big, length = towers(n), 7 * 2 ** n - 7
            many = 2 ** n
            self.assertEqual(word_total(big), many + many - 1 + 2 * (many - 2))
            self.assertEqual([counted(big, word) for word in ("'a", "*", "(", ")", "->", "int", "'b", "x:")],
                             [many, many - 1, many - 2, many - 2, 0, 0, 0, 0])
            middle = (length - 3) // 2
            self.assertEqual(word_over(big, middle + 1), ("*", many // 2 - 1, 0))
            self.assertEqual(place(big, "*", many // 2 - 1), middle + 1)
            self.assertEqual(place(big, "'a", many - 1), length - n - 1)
            self.assertEqual(place(big, "'a", many // 2), middle + 3 + n - 1)
            self.assertEqual(place(big, "'a", 0), n - 1)
            self.assertEqual(word_at(big, word_total(big) - 1), (")", length - 1) if n > 1 else ("'a", length - 2))
            self.assertEqual(counted_before(big, "'a", length), many)
            self.assertEqual(counted_before(big, "'a", middle), many // 2)
            self.assertEqual(counted_before(big, "(", middle), max(many // 2 - 1, 0))

    def test_names_behind_a_tower(self):
        big = made("tuple", [towers(400), of("{x: 'a, y: {| 'b}}"), towers(400)])
        self.assertEqual([counted(big, word) for word in ("'a", "'b", "'c", "'d", "x:", "|", "'e")],
                         [2 ** 400, 1, 1, 2 ** 400, 1, 1, 0])
        first = text_length(towers(400)) + 2 + 3
        self.assertEqual(window(big, first, 20), "{x: 'b, y: {| 'c}} *")
        self.assertEqual([place(big, word, 0) for word in ("{", "x:", "'b", "'c", "'d")],
                         [first, first + 1, first + 4, first + 14, first + 21 + 400])
        self.assertEqual(word_over(big, first + 5), ("'b", 0, 1))

    def test_inverse(self):
        for big in (towers(400), used_often(of("'a * 'b -> 'b * ('a * {x: 'b, y: 'a -> int})"), 200, of("'a * 'b"))):
            total = word_total(big)
            self.assertGreater(total, 10 ** 30)
            for step in range(40):
                word, first = word_at(big, (total - 1) * step // 39)
                found, number, offset = word_over(big, first)
                self.assertEqual((found, offset), (word, 0))
                self.assertEqual(place(big, word, number), first)
                self.assertEqual(counted_before(big, word, first), number)
                self.assertEqual(counted_before(big, word, first + 1), number + 1)
                self.assertEqual(window(big, first, len(word)), word)

    def test_many_calls(self):
        big = used_often(of("'a -> 'a * 'a"), 599, towers(400))
        total = counted(big, "'a")
        self.assertEqual(total, 2 ** 999)
        for step in range(300):
            k = total * step // 300
            self.assertEqual(word_over(big, place(big, "'a", k)), ("'a", k, 0))


class Wrong(unittest.TestCase):
    def test_numbers(self):
        for big in (of("{x: int, y: 'a | 'b}"), towers(300)):
            length, total = text_length(big), word_total(big)
            for k in [-1, -10 ** 300] + no_integers():
                for function in (word_at, word_over):
                    self.assertEqual(fault(function, big, k), (InvalidBound, "k"))
                for function in (counted_before, place):
                    self.assertEqual(fault(function, big, "'a", k), (InvalidBound, "k"))
            for k in (0, 1, 10 ** 300):
                self.assertEqual(fault(word_at, big, total + k), (InvalidBound, "k"))
                self.assertEqual(fault(word_over, big, length + k), (InvalidBound, "k"))
                self.assertEqual(fault(counted_before, big, "'a", length + 1 + k), (InvalidBound, "k"))
                self.assertEqual(fault(place, big, "'a", counted(big, "'a") + k), (InvalidBound, "k"))
                self.assertEqual(fault(place, big, "q:", k), (InvalidBound, "k"))
            self.assertEqual(counted_before(big, "q:", length), 0)

    def test_words(self):
        big = of("{x: int, y: 'a | 'b}")
        for word in NO_WORDS:
            self.assertEqual(fault(counted, big, word), (InvalidBound, "word"), word)
            for k in (0, -1, None, []):
                self.assertEqual(fault(counted_before, big, word, k), (InvalidBound, "word"))
                self.assertEqual(fault(place, big, word, k), (InvalidBound, "word"))


class Arguments(unittest.TestCase):
    def test_names(self):
        big = of("'a * 'a")
        self.assertEqual([word_total(big=big), word_at(k=1, big=big), word_over(k=1, big=big)],
                         [3, ("*", 3), ("'a", 0, 1)])
        self.assertEqual([counted(word="*", big=big), counted_before(k=3, word="*", big=big),
                          place(k=1, word="'a", big=big)], [1, 0, 5])
        self.assertEqual(big, of("'a * 'a"))
        self.assertEqual(big.variables(), [("var", 2)])

    def test_places(self):
        for name in ("word_total", "word_at", "word_over", "counted", "counted_before", "place"):
            self.assertEqual(getattr(textwords, name).__module__, "vasttypes.textwords")
        self.assertEqual(word_at(vast(V0), 0), ("'a", 0))


if __name__ == "__main__":
    unittest.main()
