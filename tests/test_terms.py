"""Point 7: nodes, depth, paths and free names of terms; and points 2 and 6 for these functions."""

import unittest

from samples import (EVERY_KIND_NODES, IDENTITY, X, Y, Z, every_kind, fault, fields, nested, no_nodes, other_values,
                     sized, under)
from vasttypes import terms
from vasttypes.errors import InvalidPath, InvalidTerm, LimitExceeded
from vasttypes.terms import check_term, depth, free_names, node_count, paths, term_at


def term_at_root(term):
    return term_at(term, ())


def term_at_no_path(term):
    return term_at(term, None)


ALL = [check_term, node_count, depth, paths, free_names, term_at_root, term_at_no_path]

F, G = ("var", "f"), ("var", "g")


def all_paths(term):
    """The paths of a term of some kinds, worked out in another way than by the program."""
    within = {"var": [], "int": [], "fun": term[2:], "app": term[1:], "let": term[2:], "if": term[1:]}[term[0]]
    found = [()]
    for step, inner in enumerate(within):
        found.extend([(step,) + path for path in all_paths(inner)])
    return found


class Counts(unittest.TestCase):
    def test_every_kind(self):
        self.assertEqual(node_count(every_kind()), len(EVERY_KIND_NODES))
        self.assertEqual(depth(every_kind()), 7)

    def test_leaves(self):
        for term in (X, ("int", 5), ("bool", False), ("record", [])):
            self.assertEqual(node_count(term), 1)
            self.assertEqual(depth(term), 1)
            self.assertEqual(paths(term), [()])

    def test_single_kinds(self):
        for term, nodes, levels in ((("fun", "x", X), 2, 2), (("app", X, IDENTITY), 4, 3), (("app", IDENTITY, X), 4, 3),
                                    (("let", "x", IDENTITY, Y), 4, 3), (("let", "x", Y, IDENTITY), 4, 3),
                                    (("rec", "f", IDENTITY, Y), 4, 3), (("rec", "f", IDENTITY, under(3, Y)), 7, 5),
                                    (("if", X, Y, Z), 4, 2), (("if", IDENTITY, X, Y), 5, 3),
                                    (("if", X, IDENTITY, Y), 5, 3), (("if", X, Y, IDENTITY), 5, 3),
                                    (("tuple", [X] * 6), 7, 2), (("tuple", [X, Y, IDENTITY]), 5, 3),
                                    (("part", 5, 6, X), 2, 2), (("record", fields(12)), 13, 2),
                                    (("record", [("x", ("record", []))]), 2, 2), (("record", [("x", IDENTITY)]), 3, 3),
                                    (("field", X, "x"), 2, 2), (("with", X, "x", Y), 3, 2),
                                    (("with", IDENTITY, "x", Y), 4, 3), (("with", X, "x", IDENTITY), 4, 3)):
            self.assertEqual((node_count(term), depth(term)), (nodes, levels), term)

    def test_at_the_limits(self):
        for count in (399, 400):
            self.assertEqual(node_count(sized(count)), count)
            self.assertEqual(len(paths(sized(count))), count)
        for levels in (98, 99):
            self.assertEqual(depth(under(levels, X)), levels + 1)
            self.assertEqual(node_count(under(levels, X)), levels + 1)
        self.assertEqual(depth(("app", sized(300), under(98, X))), 100)
        self.assertEqual(node_count(("app", sized(300), under(98, X))), 400)

    def test_equal_parts_count_each_time(self):
        term = nested(7, lambda value: ("tuple", [value, value]))
        self.assertEqual((node_count(term), depth(term)), (255, 8))
        self.assertEqual(len(set(paths(term))), 255)


class Paths(unittest.TestCase):
    def test_every_kind(self):
        self.assertEqual(paths(every_kind()), [path for path, _ in EVERY_KIND_NODES])

    def test_single_kinds(self):
        for term, expected in ((("fun", "x", Y), [(), (0,)]), (("app", IDENTITY, Y), [(), (0,), (0, 0), (1,)]),
                               (("let", "x", IDENTITY, Y), [(), (0,), (0, 0), (1,)]),
                               (("rec", "f", IDENTITY, IDENTITY), [(), (0,), (0, 0), (1,), (1, 0)]),
                               (("if", IDENTITY, IDENTITY, Y), [(), (0,), (0, 0), (1,), (1, 0), (2,)]),
                               (("tuple", [X, IDENTITY, Y]), [(), (0,), (1,), (1, 0), (2,)]),
                               (("part", 1, 2, Y), [(), (0,)]),
                               (("record", [("x", IDENTITY), ("y", Y)]), [(), (0,), (0, 0), (1,)]),
                               (("field", IDENTITY, "x"), [(), (0,), (0, 0)]),
                               (("with", IDENTITY, "x", Y), [(), (0,), (0, 0), (1,)])):
            self.assertEqual(paths(term), expected)

    def test_larger_terms(self):
        for term in (sized(400), under(99, X), ("app", sized(300), under(98, X)),
                     nested(40, lambda value: ("if", X, value, IDENTITY)),
                     nested(40, lambda value: ("let", "x", value, ("app", X, Y)))):
            self.assertEqual(paths(term), all_paths(term))

    def test_kinds_of_values(self):
        self.assertEqual(repr(paths(("app", X, IDENTITY))), "[(), (0,), (1,), (1, 0)]")

    def test_many_fields_and_items(self):
        self.assertEqual(paths(("record", fields(12))), [()] + [(k,) for k in range(12)])
        self.assertEqual(paths(("tuple", [X] * 6)), [()] + [(k,) for k in range(6)])


class TermAt(unittest.TestCase):
    def test_every_kind(self):
        term = every_kind()
        for path, word in EVERY_KIND_NODES:
            self.assertEqual(term_at(term, path)[0], word)
        self.assertEqual(repr(term_at(term, ())), repr(every_kind()))
        self.assertEqual(repr(term_at(term, (0, 0))), repr(("part", 1, 2, ("tuple", [("var", "a"), ("int", -7)]))))
        self.assertEqual(repr(term_at(term, (1, 1, 0))), repr(("bool", True)))
        self.assertEqual(repr(term_at(term, (1, 1, 1, 0, 0))),
                         repr(("record", [("l", ("int", 1)), ("m", ("record", []))])))
        self.assertEqual(term_at(term, (1, 1, 1, 0, 1)), Y)
        self.assertEqual(term_at(term, (1, 1, 2, 1)), Z)

    def test_steps_of_each_kind(self):
        one, two, three = ("int", 1), ("int", 2), ("int", 3)
        function = ("fun", "x", one)
        for term, within in ((("fun", "x", one), [one]), (("app", one, two), [one, two]),
                             (("let", "x", one, two), [one, two]), (("rec", "f", function, two), [function, two]),
                             (("if", three, one, two), [three, one, two]),
                             (("tuple", [two, one, three]), [two, one, three]), (("part", 1, 2, one), [one]),
                             (("record", [("a", two), ("b", one)]), [two, one]), (("field", one, "a"), [one]),
                             (("with", one, "a", two), [one, two])):
            for step, inner in enumerate(within):
                self.assertEqual(term_at(term, (step,)), inner)
            self.assertEqual(fault(term_at, term, (len(within),)), (InvalidPath, (len(within),)))

    def test_all_paths_are_taken(self):
        term = ("app", sized(300), under(98, X))
        for path in paths(term):
            inner = term_at(term, path)
            self.assertIn(inner[0], ("app", "fun", "var"))
            self.assertEqual(fault(term_at, term, path + (2,)), (InvalidPath, path + (2,)))
        self.assertEqual(term_at(term, (1,) + (0,) * 98), X)
        self.assertEqual(term_at(term, (1,) + (0,) * 90), under(8, X))


class WrongPaths(unittest.TestCase):
    def assert_wrong(self, term, path):
        self.assertEqual(fault(term_at, term, path), (InvalidPath, path))

    def test_numbers_that_no_term_has(self):
        for term in (X, ("int", 1), ("bool", True), ("record", [])):
            for path in ((0,), (1,), (-1,), (0, 0)):
                self.assert_wrong(term, path)
        for path in ((2,), (-1,), (-2,), (10 ** 40,), (-10 ** 40,), (0, 0), (1, 0), (0, -1), (2, 0), (-1, 0),
                     (0,) * 500):
            self.assert_wrong(("app", X, Y), path)
        for path in ((0, 0, 1), (0, 1), (1, 2), (1, 1, -1), (0, 0, 0, 0, 0), (1, 1, 1, 0, 0, 2), (1, 1, 1, 0, 0, 1, 0),
                     (1, 1, 3)):
            self.assert_wrong(every_kind(), path)

    def test_true_and_false_are_no_numbers(self):
        for path in ((True,), (False,), (0, True), (1, False), (True, 0), (1, 1, True), (1, True, 1)):
            self.assert_wrong(every_kind(), path)

    def test_other_steps(self):
        for step in ["0", "", "x", b"0", [], [0], (), (0,), ((0,),), None, {}, {0: 0}, set(), X] + other_values():
            self.assert_wrong(("app", X, Y), (step,))
            self.assert_wrong(("app", IDENTITY, Y), (0, step))
            self.assert_wrong(("app", IDENTITY, Y), (step, 0))

    def test_other_values(self):
        for path in [[], [0], [0, 0], [[]], "", "0", "01", b"\x00", 0, 1, -1, True, False] + other_values():
            self.assert_wrong(("app", IDENTITY, Y), path)
            self.assert_wrong(X, path)

    def test_numbers_that_are_equal_to_others(self):
        self.assertEqual(term_at(("app", X, Y), (1,)), Y)
        self.assert_wrong(("app", X, Y), (True,))
        self.assert_wrong(("app", X, Y), [1])

    def test_deep_paths(self):
        for around in (lambda value: [value], lambda value: (value,), lambda value: (0, value),
                       lambda value: {0: value}):
            deep = nested(2000, around, 0)
            with self.assertRaises(InvalidPath):
                term_at(("app", IDENTITY, Y), deep)
            with self.assertRaises(InvalidPath):
                term_at(("app", IDENTITY, Y), (0, deep))
        with self.assertRaises(InvalidPath):
            term_at(under(99, X), (0,) * 2000)


class FreeNames(unittest.TestCase):
    def assert_free(self, term, *expected):
        self.assertEqual(free_names(term), list(expected), term)

    def test_every_kind(self):
        self.assert_free(every_kind(), "y", "z")

    def test_none(self):
        for term in (("int", 1), ("bool", True), ("record", []), IDENTITY, ("field", ("record", []), "x"),
                     ("with", ("record", []), "x", ("int", 1)), ("record", [("x", ("int", 1))])):
            self.assert_free(term)

    def test_in_each_place(self):
        for term in (X, ("fun", "y", X), ("app", X, ("int", 1)), ("app", ("int", 1), X), ("let", "y", X, ("int", 1)),
                     ("let", "y", ("int", 1), X), ("rec", "y", ("fun", "y", X), ("int", 1)), ("rec", "f", IDENTITY, X),
                     ("if", X, ("int", 1), ("int", 1)), ("if", ("int", 1), X, ("int", 1)),
                     ("if", ("int", 1), ("int", 1), X), ("tuple", [("int", 1), X]), ("part", 0, 2, X),
                     ("record", [("a", ("int", 1)), ("b", X)]), ("field", X, "y"), ("with", X, "y", ("int", 1)),
                     ("with", ("int", 1), "y", X)):
            self.assert_free(term, "x")

    def test_ascending_and_once(self):
        self.assert_free(("tuple", [Z, X, Y, X, Z]), "x", "y", "z")
        self.assert_free(("tuple", [("var", "b"), ("var", "ab"), ("var", "abc"), ("var", "a"), ("var", "b")]),
                         "a", "ab", "abc", "b")
        self.assert_free(("app", X, X), "x")

    def test_functions(self):
        self.assert_free(("fun", "x", ("app", X, Y)), "y")
        self.assert_free(("fun", "x", ("fun", "y", ("app", X, ("app", Y, Z)))), "z")
        self.assert_free(("app", IDENTITY, X), "x")
        self.assert_free(("app", X, IDENTITY), "x")
        self.assert_free(("fun", "x", ("app", ("fun", "x", X), X)))
        self.assert_free(("fun", "y", ("app", ("fun", "x", X), X)), "x")
        self.assert_free(("tuple", [("fun", "x", Y), ("fun", "y", X)]), "x", "y")

    def test_lets(self):
        self.assert_free(("let", "x", X, Y), "x", "y")
        self.assert_free(("let", "x", Y, X), "y")
        self.assert_free(("let", "x", X, X), "x")
        self.assert_free(("let", "x", ("fun", "x", X), X))
        self.assert_free(("let", "x", ("int", 1), ("app", X, X)))
        self.assert_free(("app", ("let", "x", ("int", 1), X), X), "x")
        self.assert_free(("let", "f", ("fun", "x", ("app", F, X)), F), "f")
        self.assert_free(("let", "x", ("int", 1), ("let", "x", ("app", X, Y), X)), "y")
        self.assert_free(("fun", "x", ("let", "x", X, X)))

    def test_recs(self):
        self.assert_free(("rec", "f", ("fun", "x", F), F))
        self.assert_free(("rec", "f", ("fun", "x", ("app", F, X)), ("app", F, X)), "x")
        self.assert_free(("rec", "f", ("fun", "x", ("app", G, X)), G), "g")
        self.assert_free(("rec", "f", ("fun", "f", F), F))
        self.assert_free(("app", ("rec", "f", IDENTITY, F), F), "f")
        self.assert_free(("rec", "f", ("fun", "x", ("let", "g", F, G)), G), "g")

    def test_names_of_fields_are_none(self):
        self.assert_free(("field", ("with", ("record", [("a", X)]), "b", Y), "c"), "x", "y")

    def test_uses_behind_inner_definitions(self):
        self.assert_free(("tuple", [("fun", "x", X), ("let", "x", ("int", 1), X), ("rec", "x", ("fun", "y", X), X), X]),
                         "x")
        self.assert_free(("if", ("fun", "x", X), X, ("fun", "y", Y)), "x")

    def test_many(self):
        self.assert_free(under(99, X))
        self.assert_free(under(99, Y), "y")
        self.assert_free(sized(400), "x")


def plain_walk(term):
    """The terms within a term of records, withs, ints and vars, in the order in which they begin."""
    within = {"var": [], "int": [], "record": [inner for _, inner in term[1]] if term[0] == "record" else [],
              "with": [term[1], term[-1]]}[term[0]]
    return [term] + [found for inner in within for found in plain_walk(inner)]


class ManyPaths(unittest.TestCase):
    LABELS = ["a", "aa", "b", "bcd", "c", "count", "d", "e", "function", "g", "index", "z"]

    def term(self):
        inner = ("with", ("record", [(label, X) for label in self.LABELS]), "z", ("int", 7))
        return ("with", ("record", [(label, inner) for label in self.LABELS]), "z", inner)

    def test_all_paths_of_one_term(self):
        term = self.term()
        expected = plain_walk(term)
        self.assertEqual(node_count(term), 197)
        for path, inner in zip(paths(term), expected, strict=True):
            self.assertEqual(term_at(term, path), inner)
            self.assertEqual(term_at(path=path, term=term), inner)
            found = term_at(term, path)
            self.assertEqual(repr(found), repr(inner))
            if found[0] == "record":
                self.assertIsNot(found[1], inner[1])
        self.assertEqual(repr(term), repr(self.term()))

    def test_changes_between_calls(self):
        term = self.term()
        # The inner term stands at many places, and the first one counts.
        fields_within = term[1][1][3][1][1][1]
        before = list(fields_within)
        for k in range(12):
            fields_within[k] = ("Wrong", X)
            self.assertEqual(fault(term_at, term, (0, 0, 0)), (InvalidTerm, (0, 0, 0)))
            self.assertEqual(fault(term_at, term, (5,)), (InvalidTerm, (0, 0, 0)))
            fields_within[k] = (before[k][0], None)
            self.assertEqual(fault(term_at, term, ()), (InvalidTerm, (0, 0, 0, k)))
            fields_within[k] = (before[k][0], Y)
            self.assertEqual(term_at(term, (0, 0, 0, k)), Y)
            fields_within[k] = before[k]
        self.assertEqual(repr(term), repr(self.term()))

    def test_names_of_every_length(self):
        for name in ("a", "z", "ab", "abcdefgh", "zzzzzzzz"):
            self.assertEqual(term_at(("app", ("var", name), X), (0,)), ("var", name))
        for name in ("", "abcdefghi", "aB", "a1", "a ", "ab_"):
            self.assertEqual(fault(term_at, ("app", ("var", name), X), (0,)), (InvalidTerm, (0,)))


class Errors(unittest.TestCase):
    def assert_all(self, value, *expected):
        for function in ALL:
            self.assertEqual(fault(function, value), expected, function)

    def test_no_terms(self):
        for value in no_nodes():
            self.assert_all(value, InvalidTerm, ())
            self.assert_all(("app", X, value), InvalidTerm, (1,))
        self.assert_all(("app", ("var", "X"), ("int", True)), InvalidTerm, (0,))
        self.assert_all(("rec", "f", X, F), InvalidTerm, ())
        self.assert_all(("let", "x", ("tuple", (X, Y)), X), InvalidTerm, (0,))

    def test_limits(self):
        self.assert_all(sized(401), LimitExceeded, 400)
        self.assert_all(under(100, X), LimitExceeded, 100)
        self.assert_all(("app", sized(300), under(99, X)), LimitExceeded, 400)
        self.assert_all(("app", sized(299), under(99, None)), LimitExceeded, 100)
        self.assert_all(under(99, None), InvalidTerm, (0,) * 99)

    def test_deep_values(self):
        self.assert_all(nested(2000, lambda value: [value]), InvalidTerm, ())
        self.assert_all(nested(2000, lambda value: (value,)), InvalidTerm, ())
        for around in (lambda value: ("fun", "x", value), lambda value: ("app", value, X),
                       lambda value: ("tuple", [X, value]), lambda value: ("record", [("x", value)]),
                       lambda value: ("app", value, value)):
            self.assert_all(nested(2000, around), LimitExceeded, 100)

    def test_errors_of_the_term_come_first(self):
        wrong = ("app", X, None)
        for path in ((), (0,), (1,), (2,), [0], None, (True,), [[]]):
            self.assertEqual(fault(term_at, wrong, path), (InvalidTerm, (1,)))
            self.assertEqual(fault(term_at, sized(401), path), (LimitExceeded, 400))
            self.assertEqual(fault(term_at, under(100, X), path), (LimitExceeded, 100))

    def test_nothing_changes_by_an_error(self):
        path, term = [0], every_kind()
        self.assertEqual(fault(term_at, term, path), (InvalidPath, [0]))
        self.assertEqual((path, repr(term)), ([0], repr(every_kind())))


class Conventions(unittest.TestCase):
    def test_arguments_by_name(self):
        double = ("fun", "x", ("tuple", [X, Y]))
        self.assertIsNone(check_term(value=double))
        self.assertEqual(node_count(term=double), 4)
        self.assertEqual(depth(term=double), 3)
        self.assertEqual(paths(term=double), [(), (0,), (0, 0), (0, 1)])
        self.assertEqual(free_names(term=double), ["y"])
        self.assertEqual(term_at(path=(0, 1), term=double), Y)
        self.assertEqual(term_at(double, path=(0, 1)), Y)

    def test_places(self):
        for name in ("check_term", "node_count", "depth", "term_at", "paths", "free_names"):
            self.assertEqual(getattr(terms, name).__module__, "vasttypes.terms")

    def test_terms_stay_as_they_were(self):
        term = every_kind()
        for function in ALL[:-1]:
            function(term)
            self.assertEqual(repr(term), repr(every_kind()))

    def test_lists_are_new(self):
        term = every_kind()
        for function in (paths, free_names):
            first, second = function(term), function(term)
            self.assertIsNot(first, second)
            first.clear()
            self.assertEqual(function(term), second)

    def test_terms_are_new(self):
        items = [X, ("record", [("a", X), ("b", ("tuple", [Y, Z]))])]
        term = ("fun", "x", ("tuple", items))
        before = repr(term)
        for path, empty in (((), lambda found: found[2][1].clear()), ((0,), lambda found: found[1].clear()),
                            ((0,), lambda found: found[1][1][1].clear()),
                            ((0, 1), lambda found: found[1].clear()),
                            ((0, 1), lambda found: found[1][1][1][1].clear()),
                            ((0, 1, 1), lambda found: found[1].clear())):
            expected = repr(term_at(term, path))
            empty(term_at(term, path))
            self.assertEqual(repr(term), before)
            self.assertEqual(repr(term_at(term, path)), expected)

    def test_a_new_term_does_not_follow_the_old_one(self):
        items = [X, Y]
        term = ("fun", "x", ("tuple", items))
        found = term_at(term, (0,))
        items.append(Z)
        self.assertEqual(found, ("tuple", [X, Y]))
        self.assertEqual(term_at(term, (0,)), ("tuple", [X, Y, Z]))
        self.assertEqual((node_count(term), free_names(term), len(paths(term))), (5, ["y", "z"], 5))

    def test_constants_keep_their_kinds(self):
        term = ("tuple", [("int", 1), ("bool", True), ("int", 0), ("bool", False)])
        self.assertEqual(repr(term_at(term, ())), repr(term))


if __name__ == "__main__":
    unittest.main()
