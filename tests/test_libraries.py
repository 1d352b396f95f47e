"""Points 55 to 60: libraries and holes."""

import itertools
import random
import unittest

from samples import (INT, X, circles_ahead_of_clashes, fault, many_names, nested, no_integers, no_names, no_nodes, of,
                     other_values, random_program, random_term, random_tree, sized, text_of, under, used_often)
from vasttypes import libraries
from vasttypes.common import common_instance
from vasttypes.errors import InvalidBound, InvalidName, InvalidTerm, LimitExceeded, NoType
from vasttypes.graphs import made, towers, vast
from vasttypes.inference import infer, infer_in
from vasttypes.libraries import applied, cover, demand, fills, fits, meets, uses
from vasttypes.order import is_instance
from vasttypes.terms import check_term, free_names, node_count
from vasttypes.termtexts import read_term
from vasttypes.trees import check_tree

TEXTS = {"id": "'a -> 'a", "one": "int", "pair": "'a -> 'a * 'a", "yes": "bool", "first": "'a * 'b -> 'a", "any": "'a",
         "apply": "('a -> 'b) -> 'a -> 'b", "const": "'a -> 'b -> 'a", "plus": "int -> int -> int",
         "getx": "{x: 'a | 'b} -> 'a", "rec": "{x: int, y: bool}", "open": "{| 'a} -> {| 'a}", "self": "('a -> 'a) -> 'a",
         "both": "int * bool", "test": "bool -> 'a -> 'a -> 'a", "un": "{}"}

NO_LIBRARIES = [[], (), "id", None, 1, [("id", vast(INT))], {"id": INT}, {"ID": vast(INT)}, {"": vast(INT)},
                {"abcdefghi": vast(INT)}, {1: vast(INT)}, {("id",): vast(INT)}, {"id": vast(INT), "one": None},
                {None: vast(INT)}, {"id": [vast(INT)]}, vast(INT)]


def stock():
    return {name: of(TEXTS[name]) for name in ("id", "one", "pair", "yes")}


def shelf():
    return {name: of(text) for name, text in TEXTS.items()}


def of_size(count):
    """Return a library with so many names."""
    return {name: vast(INT) for name in many_names(count)}


def random_types(count, seed, levels=3, variables=2):
    source = random.Random(seed)
    trees = [random_tree(source, levels, variables) for _ in range(count)]
    return [vast(tree) for tree in trees if fault(check_tree, tree) is None]


def type_or_none(term, library):
    """Return what infer_in returns, None for an error."""
    try:
        return infer_in(term, library)
    except (NoType, LimitExceeded):
        return None


def used_with(names):
    term = ("var", names[0])
    for name in names[1:]:
        term = ("app", term, ("var", name))
    return term


class Fitting(unittest.TestCase):
    def test_all_pairs(self):
        wants = [of(text) for text in TEXTS.values()] + random_types(50, 1)
        for library in (shelf(), stock(), {}, dict(zip(many_names(100), itertools.cycle(random_types(60, 2))))):
            for wanted in wants:
                self.assertEqual(fits(library, wanted), [name for name in sorted(library)
                                                         if is_instance(wanted, library[name])])
                self.assertEqual(meets(library, wanted), [name for name in sorted(library)
                                                          if common_instance(wanted, library[name]) is not None])

    def test_examples(self):
        self.assertEqual(fits(stock(), of("int -> int")), ["id"])
        self.assertEqual(meets(wanted=of("int -> 'a"), library=stock()), ["id", "pair"])
        self.assertEqual(fits(wanted=of("'a"), library=stock()), [])
        self.assertEqual(meets(stock(), of("'a")), ["id", "one", "pair", "yes"])
        self.assertEqual(meets({"self": of("'a -> int -> 'a")}, of("'a -> 'a")), [])

    def test_large_types(self):
        # The common instance of these has more parts than a Vast can have.
        library = {"tall": of_tall("int"), "id": of("'a")}
        self.assertEqual(meets(library, of_tall("bool")), ["id"])
        self.assertEqual(fits({"t": towers(300), "u": towers(301), "v": towers(200)}, towers(300)), ["t", "v"])
        left = used_often(of("'a * 'b -> ('a * 'b) * 'a"), 300, of("'a * 'b"))
        right = used_often(of("'a * 'b -> ('a * 'b) * 'a"), 300, of("'a * int"))
        self.assertEqual(fits({"left": left, "right": right}, right), ["left", "right"])

    def test_common_instances_of_any_size(self):
        # Variable k of one is a pair of two towers of its own, which are what the other has at its place.
        fields = many_names(10)
        towering = [used_often(of(f"'a -> 'a * {word}"), 95, of("'a")) for word in ["int", "bool"] * 5]
        one = record_of(dict(zip(fields, towering)))
        other = record_of({name: of("'a") for name in fields + ["zz"]}, True)
        more = record_of({name: used_often(of("'a -> 'a * 'a"), 95, of(f"'a * {word}"))
                          for name, word in zip(many_names(20)[10:], ["int", "bool"] * 5)}, True)
        opened = record_of(dict(zip(fields, towering)), True)
        self.assertEqual(fault(common_instance, opened, more), (LimitExceeded, 1000))
        self.assertEqual(meets({"more": more, "other": other, "one": one}, opened), ["more", "one", "other"])

    def test_wrong_libraries(self):
        wanted = of("int")
        for library in NO_LIBRARIES + [of_size(101)] + other_values():
            if library == {}:
                continue
            for call in (lambda: fits(library, wanted), lambda: meets(library, wanted), lambda: uses(library, wanted, 9),
                         lambda: fills(("var", "x"), None, library), lambda: cover(library, None)):
                self.assertEqual(fault(call), (InvalidBound, "library"))
        self.assertEqual(len(fits(of_size(100), wanted)), 100)
        self.assertEqual([fits({}, wanted), meets({}, wanted)], [[], []])


def of_tall(word):
    return used_often(of("'a -> 'a * 'a"), 300, of(word))


def record_of(fields, is_open=False):
    return made("record", [fields[name] for name in sorted(fields)], sorted(fields), is_open)


class Applied(unittest.TestCase):
    def test_all_pairs(self):
        bigs = list(shelf().values()) + random_types(40, 3)
        for function in bigs:
            for taken in bigs:
                found = applied(function, [taken])
                expected = type_or_none(used_with(["f", "x"]), {"f": function, "x": taken})
                self.assertTrue(found == expected)

    def test_several_arguments(self):
        source = random.Random(4)
        library = shelf()
        seen = 0
        for _ in range(600):
            names = [source.choice(list(library)) for _ in range(source.randint(2, 6))]
            names[0] = source.choice(["apply", "const", "test", "any", "id", "plus", names[0]])
            found = applied(library[names[0]], tuple(library[name] for name in names[1:]))
            expected = type_or_none(used_with(names), library)
            seen += expected is not None
            self.assertTrue(found == expected, names)
        self.assertGreater(seen, 150)

    def test_examples(self):
        pair = of(TEXTS["pair"])
        self.assertEqual(text_of(applied(pair, [pair])), "('a -> 'a * 'a) * ('a -> 'a * 'a)")
        self.assertIsNone(applied(of("'a -> 'a"), [of("int"), of("int")]))
        self.assertEqual(text_of(applied(arguments=[of("'a -> 'b"), of("int")], function=of(TEXTS["apply"]))), "'a")
        # The same Vast stands for types that have nothing to do with one another.
        ident = of("'a -> 'a")
        self.assertEqual(text_of(applied(of("'a -> 'b -> 'a * 'b"), [ident, ident])), "('a -> 'a) * ('b -> 'b)")
        self.assertEqual(text_of(applied(of("('a -> 'b) -> 'a -> int"), [of("'a -> 'a"), of("'a -> 'a")])), "int")
        self.assertIsNone(applied(of("('a -> 'a) -> int"), [of("'a -> int -> 'a")]))
        self.assertIsNone(applied(of("int"), [of("int")]))

    def test_limit(self):
        pair = of(TEXTS["pair"])
        tall = used_often(pair, 598, towers(400))
        self.assertEqual(applied(pair, [tall]).node_total(), 1000)
        self.assertEqual(fault(applied, pair, [used_often(pair, 1, tall)]), (LimitExceeded, 1000))
        # What comes up on the way is not limited.
        big = used_often(pair, 1, tall)
        self.assertEqual(text_of(applied(of("'a -> 'b -> 'c -> int"), [big, big, big])), "int")
        self.assertEqual(text_of(applied(of("('a -> 'b) -> 'a -> int"), [of("'a -> ('a * 'a) * 'a"), big])), "int")

    def test_wrong_arguments(self):
        function = of("'a -> 'a")
        for arguments in [[], (), [function] * 6, (function,) * 6, [function, None], [INT], function, {0: function}, "f",
                          None] + other_values():
            self.assertEqual(fault(applied, function, arguments), (InvalidBound, "arguments"))


def plain_uses(library, wanted, most):
    found = []
    for many in range(1, most + 2):
        for names in itertools.product(sorted(library), repeat=many):
            big = type_or_none(used_with(names), library)
            if big is not None and is_instance(wanted, big):
                found.append(names)
    return found


class Uses(unittest.TestCase):
    def test_against_all_rows(self):
        library = shelf()
        for text in ("int", "bool", "int -> int", "int * int", "'a -> 'a", "{x: int, y: bool}", "'a", "(int -> int) * int",
                     "'a * 'a", "bool -> int"):
            for most in (0, 1):
                self.assertEqual(uses(library, of(text), most), plain_uses(library, of(text), most), text)
        for names in (("id", "one", "pair", "yes"), ("apply", "const", "id", "one", "any"), ("first", "both", "test", "yes"),
                      ("self", "id", "pair", "getx", "rec", "open"), ("plus", "one", "apply", "un")):
            some = {name: library[name] for name in names}
            for text in ("int", "bool", "int -> int", "'a -> 'a", "int * int", "{}"):
                self.assertEqual(uses(some, of(text), 2), plain_uses(some, of(text), 2), (names, text))

    def test_random_libraries(self):
        for seed in range(6):
            bigs = random_types(9, 10 + seed)
            functions = [vast(("fun", big.tree(), other.tree())) for big, other in zip(bigs, bigs[1:])
                         if fault(check_tree, ("fun", big.tree(), other.tree())) is None]
            library = dict(zip("abcdefghijkl", functions + bigs[:6]))
            for wanted in bigs[:4] + [of("int")]:
                self.assertEqual(uses(library, wanted, 1), plain_uses(library, wanted, 1))
                some = dict(list(library.items())[:7])
                self.assertEqual(uses(some, wanted, 2), plain_uses(some, wanted, 2))

    def test_examples(self):
        self.assertEqual(uses(stock(), of("int"), 1), [("one",), ("id", "one")])
        self.assertEqual(uses(most=2, wanted=of("int"), library=stock()),
                         [("one",), ("id", "one"), ("id", "id", "one")])
        self.assertEqual(uses({}, of("int"), 2), [])

    def test_limits(self):
        wanted = of("bool")
        for most, right in ((0, 100), (1, 100), (2, 21)):
            self.assertEqual(uses(of_size(right), wanted, most), [])
        self.assertEqual(fault(uses, of_size(22), wanted, 2), (LimitExceeded, 10000))
        self.assertEqual(fault(uses, of_size(100), wanted, 2), (LimitExceeded, 10000))
        for most in [-1, 3, 10 ** 30] + no_integers():
            self.assertEqual(fault(uses, of_size(22), wanted, most), (InvalidBound, "most"))

    def test_large_types(self):
        pair = of(TEXTS["pair"])
        tall = used_often(pair, 599, towers(400))
        library = {"tall": tall, "pair": pair, "id": of("'a -> 'a"), "drop": of("'a -> int"), "one": of("int")}
        # A type with more than 1000 parts can have instances with fewer, and comes up on the way.
        self.assertEqual(uses(library, of("int"), 1), [("one",), ("drop", "drop"), ("drop", "id"), ("drop", "one"),
                                                       ("drop", "pair"), ("drop", "tall"), ("id", "one")])
        self.assertEqual(uses(library, tall, 1), [("tall",), ("id", "tall")])
        many = of("{" + ", ".join(f"{name}: 'q{name}" for name in many_names(1)) + "}")
        self.assertEqual(uses({"d": pair, "m": many}, of("{aa: int} * {aa: int}"), 1), [("d", "m")])
        wide = record_of({name: of("'a -> 'b") for name in many_names(300)})
        same = record_of({name: of("int -> int") for name in many_names(300)})
        two = of("'a -> 'b -> 'a * 'b")
        wanted = applied(two, [same, same])
        self.assertEqual(fault(applied, two, [wide, wide]), (LimitExceeded, 1000))
        self.assertEqual(uses({"two": two, "wide": wide}, wanted, 2), [("two", "wide", "wide")])


class Demand(unittest.TestCase):
    def check(self, term):
        names = free_names(term)
        whole = term
        for name in names[::-1]:
            whole = ("fun", name, whole)
        if fault(check_term, whole) is not None:
            return False
        expected = fault(infer, whole)
        if expected is None:
            self.assertEqual(demand(term)[0], names)
            self.assertTrue(demand(term)[1] == infer(whole), term)
        elif expected[0] is NoType:
            self.assertEqual(fault(demand, term), (NoType, expected[1][len(names):]))
        else:
            self.assertEqual(fault(demand, term), expected)
        return expected is None and len(names) > 0

    def test_random_terms(self):
        source = random.Random(5)
        seen = 0
        for _ in range(700):
            term = random_program(source, source.randint(2, 6), ("x", "y", "z"))
            if fault(check_term, term) is None:
                seen += self.check(term)
            self.check(random_term(source, 3))
        self.assertGreater(seen, 200)

    def test_examples(self):
        for text, names, expected in (("( f x )", ["f", "x"], "('a -> 'b) -> 'a -> 'b"), ("1", [], "int"), ("x", ["x"], "'a -> 'a"),
                                      ("( let g = f in ( ( g 1 ) , ( f x ) ) )", ["f", "x"], "(int -> 'a) -> int -> 'a * 'a"),
                                      ("( b a )", ["a", "b"], "'a -> ('a -> 'b) -> 'b"),
                                      ("( fun x . ( x , y ) )", ["y"], "'a -> 'b -> 'b * 'a")):
            found, big = demand(read_term(text))
            self.assertEqual([found, text_of(big)], [names, expected])
        # One type at all places, so no function for both, and none for itself.
        self.assertEqual(fault(demand, read_term("( ( f 1 ) , ( f true ) )")), (NoType, (1,)))
        self.assertEqual(fault(demand, read_term("( 1 , ( f f ) )")), (NoType, (1,)))
        found, _ = demand(term=("var", "x"))
        found.append("y")
        self.assertEqual(demand(("var", "x"))[0], ["x"])

    def test_circles_ahead_of_clashes(self):
        for term, path in circles_ahead_of_clashes():
            self.assertEqual(fault(demand, term), (NoType, path), term)
            # Without the function around it, x is a free name of the term.
            self.assertEqual(fault(demand, term[2]), (NoType, path[1:]), term)

    def test_largest_terms(self):
        term = sized(400)
        self.assertEqual(node_count(term), 400)
        self.assertEqual(fault(demand, term)[0], NoType)
        names = many_names(100)
        self.assertEqual(demand(under(99, X))[0], [])
        deep = nested(99, lambda held: ("fun", "q", held), ("var", "free"))
        found, big = demand(deep)
        self.assertEqual([found, big.height()], [["free"], 101])
        wide = ("var", names[0])
        for name in names[1:99]:
            wide = ("app", wide, ("var", name))
        found, big = demand(wide)
        self.assertEqual([found, big.labels(), big.height()], [names[:99], [], 100])

    def test_errors(self):
        for value in no_nodes()[:30]:
            self.assertEqual(fault(demand, value), (InvalidTerm, ()))
        self.assertEqual(fault(demand, under(100, X)), (LimitExceeded, 100))
        self.assertEqual(fault(demand, nested(2000, lambda held: ("fun", "x", held))), (LimitExceeded, 100))


class Fills(unittest.TestCase):
    def plain(self, term, name, library):
        found = [(other, type_or_none(term, {**library, name: library[other]})) for other in sorted(library)]
        return [(other, big) for other, big in found if big is not None]

    def check(self, term, name, library):
        found, expected = fills(term, name, library), self.plain(term, name, library)
        self.assertEqual([other for other, _ in found], [other for other, _ in expected])
        self.assertTrue(all(one == other for (_, one), (_, other) in zip(found, expected)))
        return len(found)

    def test_random_terms(self):
        source = random.Random(6)
        library = shelf()
        seen = 0
        for _ in range(800):
            term = random_program(source, source.randint(2, 5), ("h", "h", "one", "pair", "id"))
            if fault(check_term, term) is None and "h" in free_names(term):
                seen += self.check(term, "h", library) in range(1, len(library))
        self.assertGreater(seen, 60)

    def test_examples(self):
        for text, expected in (("( ( h 1 ) , ( h true ) )", [("id", "int * bool"), ("pair", "(int * int) * (bool * bool)")]),
                               ("( let g = h in ( ( g 1 ) , ( g true ) ) )", [("id", "int * bool"),
                                                                          ("pair", "(int * int) * (bool * bool)")]),
                               ("( ( fun h . ( h 1 ) ) h )", [("id", "int"), ("pair", "int * int")]),
                               ("( fun h . ( h 1 ) )", None), ("( fun x . ( if h then x else ( id x ) ) )", [("yes", "'a -> 'a")]),
                               ("( h h )", [("id", "'a -> 'a"), ("pair", "('a -> 'a * 'a) * ('a -> 'a * 'a)")])):
            term = read_term(text)
            if expected is None:
                self.assertEqual(fault(fills, term, "h", stock()), (InvalidName, "h"))
            else:
                found = fills(library=stock(), name="h", term=term)
                self.assertEqual([(other, text_of(big)) for other, big in found], expected)

    def test_fact(self):
        source = random.Random(7)
        library, many = shelf(), 0
        for _ in range(200):
            term = random_program(source, source.randint(2, 5), ("h",))
            if fault(check_term, term) is None and free_names(term) == ["h"] and fault(demand, term) is None:
                names = meets(library, demand(term)[1].part((0,)))
                found = [other for other, _ in fills(term, "h", library)]
                self.assertTrue(set(names) <= set(found))
                many += len(names) > 0
        self.assertGreater(many, 20)

    def test_limit(self):
        library = {"pair": of(TEXTS["pair"]), "id": of("'a -> 'a"), "tall": used_often(of(TEXTS["pair"]), 590, towers(400))}
        term = nested(20, lambda held: ("app", ("var", "h"), held), ("var", "tall"))
        self.assertEqual([other for other, _ in fills(term, "h", library)], ["id"])

    def test_errors(self):
        library = stock()
        term = ("tuple", [("var", "b"), ("var", "h"), ("var", "a")])
        for name in no_names():
            self.assertEqual(fault(fills, X, name, library)[0], InvalidName)
        for value, name, held, expected in (
                (None, None, None, (InvalidTerm, ())), (term, None, None, (InvalidBound, "library")),
                (term, "x", library, (InvalidName, "x")), (term, "h", library, (InvalidName, "b")),
                (term, "h", {**library, "b": of("int")}, (InvalidName, "a")),
                (term, "h", {**library, "h": of("int")}, (InvalidName, "h")), (term, "one", library, (InvalidName, "one")),
                (under(100, X), "h", library, (LimitExceeded, 100)), (term, "h", of_size(101), (InvalidBound, "library")),
                (("fun", "h", ("var", "h")), "h", library, (InvalidName, "h")),
                (term, "b", library, (InvalidName, "h")), (("app", ("var", "h"), ("var", "one")), "one", library,
                                                          (InvalidName, "one"))):
            self.assertEqual(fault(fills, value, name, held), expected)
        self.assertEqual(fills(("var", "h"), "h", {}), [])


class Cover(unittest.TestCase):
    def plain(self, library, wants):
        names = sorted(library)
        rows = [list(row) for size in range(len(names) + 1) for row in itertools.combinations(names, size)
                if all(any(is_instance(big, library[name]) for name in row) for big in wants)]
        return min(rows, key=lambda row: (len(row), row), default=None)

    def test_random(self):
        source = random.Random(8)
        bigs = [of(text) for text in ("'a -> 'b", "'a * 'b", "int", "bool", "{x: 'a | 'b}", "{| 'a}", "'a -> 'a", "int * 'a",
                                      "{}", "'a -> int", "'a * 'b * 'c")]
        smalls = [of(text) for text in ("int -> int", "int * bool", "int", "bool", "{x: int}", "{}", "bool -> int",
                                        "int * int * int", "'a -> 'a", "{y: int}")]
        seen = 0
        for _ in range(300):
            library = {name: source.choice(bigs) for name in source.sample(many_names(40), source.randint(0, 6))}
            wants = [source.choice(smalls + bigs) for _ in range(source.randint(0, 4))]
            if source.random() < 0.6 and library:
                wants = [big for big in wants if any(is_instance(big, held) for held in library.values())]
            expected = self.plain(library, wants)
            seen += expected is not None and len(expected) > 1
            self.assertEqual(cover(library, wants), expected)
            self.assertEqual(cover(wants=tuple(wants), library=library), expected)
        self.assertGreater(seen, 5)

    def test_examples(self):
        self.assertEqual(cover(stock(), [of("int"), of("bool -> bool")]), ["id", "one"])
        self.assertEqual(cover(stock(), []), [])
        self.assertEqual(cover({}, []), [])
        self.assertIsNone(cover({}, [of("int")]))
        self.assertIsNone(cover(stock(), [of("int"), of("'a")]))
        self.assertEqual(cover({"a": of("int"), "b": of("int"), "c": of("'a")}, [of("int")]), ["a"])
        self.assertEqual(cover({"b": of("int -> 'a"), "c": of("'a -> bool"), "d": of("'a -> 'b")}, [of("int -> bool")] * 30),
                         ["b"])

    def test_limits(self):
        library = {name: of("int") for name in many_names(12)}
        self.assertEqual(cover(library, [of("int")] * 30), ["aa"])
        self.assertIsNone(cover(library, [of("int")] * 29 + [of("bool")]))
        big = {name: of("int") for name in many_names(13)}
        self.assertEqual(fault(cover, big, []), (LimitExceeded, 12))
        self.assertEqual(fault(cover, big, None), (LimitExceeded, 12))
        for wants in [[of("int")] * 31, (of("int"),) * 31, [None], [of("int"), INT], of("int"), {0: of("int")}, "x",
                      None] + other_values():
            self.assertEqual(fault(cover, library, wants), (InvalidBound, "wants"))


class Arguments(unittest.TestCase):
    def test_arguments_stay(self):
        library, wanted = stock(), of("int")
        kept = dict(library)
        term = read_term("( h ( id one ) )")
        before = repr(term)
        for function in (lambda: fits(library, wanted), lambda: meets(library, wanted), lambda: uses(library, wanted, 1),
                         lambda: fills(term, "h", library), lambda: cover(library, [wanted])):
            first = function()
            first.append(None)
            self.assertEqual(len(function()) + 1, len(first))
        self.assertTrue(library == kept and list(library) == list(kept))
        self.assertEqual(repr(term), before)
        turned = dict(list(library.items())[::-1])
        self.assertEqual(uses(turned, wanted, 2), uses(library, wanted, 2))

    def test_places(self):
        for name in ("fits", "meets", "applied", "uses", "demand", "fills", "cover"):
            self.assertEqual(getattr(libraries, name).__module__, "vasttypes.libraries")


if __name__ == "__main__":
    unittest.main()
