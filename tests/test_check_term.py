"""Points 5 and 6: what a term is, and the first error of what is none."""

import copy
import unittest

from samples import (IDENTITY, X, Y, every_kind, fault, fields, names, nested, no_integers, no_lists, no_names,
                     no_nodes, other_values, sized, under)
from vasttypes.errors import InvalidTerm, LimitExceeded
from vasttypes.terms import check_term

BOUND = 10 ** 30


class TermCase(unittest.TestCase):
    def assert_term(self, value):
        self.assertIsNone(check_term(value))

    def assert_wrong(self, value, path=()):
        self.assertEqual(fault(check_term, value), (InvalidTerm, path))

    def assert_limit(self, value, limit):
        self.assertEqual(fault(check_term, value), (LimitExceeded, limit))


class Kinds(TermCase):
    def test_every_kind(self):
        self.assert_term(every_kind())
        for term in (X, ("int", 0), ("bool", True), ("fun", "x", X), ("app", X, Y), ("let", "x", X, Y),
                     ("rec", "f", IDENTITY, X), ("if", X, X, Y), ("tuple", [X, Y]), ("part", 0, 2, X),
                     ("record", [("x", X)]), ("field", X, "x"), ("with", X, "x", Y)):
            self.assert_term(term)

    def test_result_and_name_of_argument(self):
        self.assertIsNone(check_term(value=every_kind()))
        with self.assertRaises(InvalidTerm):
            check_term(value=None)

    def test_argument_stays(self):
        term = every_kind()
        check_term(term)
        self.assertEqual(repr(term), repr(every_kind()))
        wrong = ("tuple", [X, ("record", [("b", X), ("a", X)])])
        before = copy.deepcopy(wrong)
        fault(check_term, wrong)
        self.assertEqual(wrong, before)

    def test_each_call_looks_anew(self):
        items = [X, Y]
        self.assert_term(("tuple", items))
        items.append(None)
        self.assert_wrong(("tuple", items), (2,))
        items.pop()
        self.assert_term(("tuple", items))

    def test_equal_values_of_other_types(self):
        self.assert_term(("int", 1))
        self.assert_wrong(("bool", 1))
        self.assert_wrong(("int", True))
        self.assert_term(("bool", True))
        self.assert_term(("part", 1, 2, X))
        self.assert_wrong(("part", True, 2, X))

    def test_other_values(self):
        for value in no_nodes():
            self.assert_wrong(value)

    def test_lengths(self):
        for term in (X, ("int", 0), ("bool", True), ("fun", "x", X), ("app", X, Y), ("let", "x", X, Y),
                     ("rec", "f", IDENTITY, X), ("if", X, X, Y), ("tuple", [X, Y]), ("part", 0, 2, X),
                     ("record", []), ("record", [("x", X)]), ("field", X, "x"), ("with", X, "x", Y)):
            for length in range(len(term)):
                self.assert_wrong(term[:length])
            for more in (X, "x", None, 0, [], ()):
                self.assert_wrong(term + (more,))
            self.assert_wrong(list(term))

    def test_words_of_other_kinds(self):
        for value in (("var", X), ("int", "x"), ("bool", "x"), ("fun", X, "x"), ("app", "x", X, X), ("let", X, X, "x"),
                      ("rec", IDENTITY, X, "x"), ("tuple", X, X), ("tuple", X), ("part", X, 0, 2), ("part", 0, X, 2),
                      ("record", "x", X), ("record", ("x", X)), ("field", "x", X), ("with", X, Y, "x"),
                      ("with", "x", X, Y)):
            self.assert_wrong(value)

    def test_wrong_value_in_the_place_of_each_term(self):
        for value in no_nodes():
            self.assert_wrong(("fun", "x", value), (0,))
            self.assert_wrong(("app", value, X), (0,))
            self.assert_wrong(("app", X, value), (1,))
            self.assert_wrong(("let", "x", value, X), (0,))
            self.assert_wrong(("let", "x", X, value), (1,))
            self.assert_wrong(("rec", "f", IDENTITY, value), (1,))
            self.assert_wrong(("rec", "f", ("fun", "x", value), X), (0, 0))
            self.assert_wrong(("if", value, X, X), (0,))
            self.assert_wrong(("if", X, value, X), (1,))
            self.assert_wrong(("if", X, X, value), (2,))
            self.assert_wrong(("tuple", [value, X]), (0,))
            self.assert_wrong(("tuple", [X, X, X, X, X, value]), (5,))
            self.assert_wrong(("part", 1, 2, value), (0,))
            self.assert_wrong(("record", [("x", value)]), (0,))
            self.assert_wrong(("record", [("x", X), ("y", X), ("z", value)]), (2,))
            self.assert_wrong(("field", value, "x"), (0,))
            self.assert_wrong(("with", value, "x", X), (0,))
            self.assert_wrong(("with", X, "x", value), (1,))


class Names(TermCase):
    def places(self, name):
        return [("var", name), ("fun", name, X), ("let", name, X, Y), ("rec", name, IDENTITY, Y),
                ("record", [(name, X)]), ("field", X, name), ("with", X, name, Y)]

    def test_names(self):
        for name in ("a", "m", "z", "ab", "abcdefgh", "zzzzzzzz", "aaaaaaaa", "fun", "let", "rec", "in", "if", "then",
                     "else", "of", "with", "true", "false", "var", "int"):
            for term in self.places(name):
                self.assert_term(term)

    def test_no_names(self):
        for name in no_names():
            for value in self.places(name):
                self.assert_wrong(value)


class Numbers(TermCase):
    def test_integers(self):
        for k in (0, 1, -1, BOUND - 1, BOUND, -BOUND, 1 - BOUND):
            self.assert_term(("int", k))

    def test_integers_beyond(self):
        for k in (BOUND + 1, -BOUND - 1, 10 ** 31, -10 ** 900):
            self.assert_wrong(("int", k))

    def test_no_integers(self):
        for k in no_integers():
            self.assert_wrong(("int", k))
            self.assert_wrong(("part", k, 2, X))
            self.assert_wrong(("part", 0, k, X))

    def test_truth(self):
        self.assert_term(("bool", True))
        self.assert_term(("bool", False))
        for k in [0, 1, -1, "true", "True", "", [], [True], (), (True,), X] + other_values():
            self.assert_wrong(("bool", k))

    def test_parts(self):
        for size in range(-3, 10):
            for k in range(-3, 12):
                value = ("part", k, size, X)
                if 2 <= size <= 6 and 0 <= k < size:
                    self.assert_term(value)
                else:
                    self.assert_wrong(value)
        self.assert_wrong(("part", 0, 10 ** 30, X))
        self.assert_wrong(("part", 10 ** 30, 6, X))
        self.assert_wrong(("part", -10 ** 30, 6, X))


class ItemsAndFields(TermCase):
    def test_numbers_of_items(self):
        for count in range(10):
            value = ("tuple", [X] * count)
            if 2 <= count <= 6:
                self.assert_term(value)
            else:
                self.assert_wrong(value)
        self.assert_wrong(("tuple", [X] * 1000))

    def test_items_that_are_no_list(self):
        for value in no_lists():
            self.assert_wrong(("tuple", value))
            self.assert_wrong(("record", value))
        self.assert_wrong(("tuple", X))

    def test_numbers_of_fields(self):
        for count in range(16):
            value = ("record", fields(count))
            if count <= 12:
                self.assert_term(value)
            else:
                self.assert_wrong(value)
        self.assert_wrong(("record", [("x", X)] * 1000))

    def test_orders_of_names(self):
        self.assert_term(("record", [("a", X), ("aa", X), ("ab", X), ("b", X), ("ba", X), ("zzzzzzzz", X)]))
        for wrong in (["a", "a"], ["b", "a"], ["aa", "a"], ["b", "ab"], ["a", "c", "b"], ["b", "a", "c"],
                      ["a", "b", "b"], ["a", "a", "b"], ["c", "b", "a"], ["a", "b", "a"],
                      names(12)[1:] + ["a"], names(11) + ["k"]):
            self.assert_wrong(("record", [(name, X) for name in wrong]))

    def test_fields(self):
        for field in [["x", X], ("x",), (), ("x", X, X), (X, "x"), (X,), "xy", "x", ("x", "y", "z"), 0, True, None, X,
                      ("xX", X), {"x": X}] + other_values():
            if field == X:
                self.assert_wrong(("record", [field]), (0,))
                continue
            self.assert_wrong(("record", [field]))
            self.assert_wrong(("record", [("a", X), field]))


class Definitions(TermCase):
    def test_definitions_of_rec(self):
        self.assert_term(("rec", "f", ("fun", "f", ("var", "f")), ("var", "f")))
        for definition in [X, ("int", 1), ("app", IDENTITY, X), ("let", "x", X, IDENTITY), ("tuple", [X, X]),
                           ("record", []), ("rec", "f", IDENTITY, X), ["fun", "x", X], "fun", ["fun"], (),
                           ("",), ("funs", "x", X), ("fu", "x", X), ("Fun", "x", X), (b"fun", "x", X),
                           (["fun"], "x", X), (("fun",), "x", X), {"fun": 1}] + no_nodes():
            self.assert_wrong(("rec", "f", definition, X))

    def test_what_begins_as_a_function_is_looked_at_by_itself(self):
        for definition in (("fun",), ("fun", "x"), ("fun", "x", X, X), ("fun", "X", X), ("fun", X, "x"),
                           ("fun", None, None, None), ("fun", ["fun"]), ("fun", 1, 2, 3, 4, 5, 6)):
            self.assert_wrong(("rec", "f", definition, X), (0,))
        self.assert_wrong(("rec", "f", ("fun", "x", None), X), (0, 0))
        self.assert_wrong(("rec", "f", ("fun", "x", ("rec", "g", X, X)), X), (0, 0))

    def test_let_takes_any_definition(self):
        for definition in (X, ("int", 1), IDENTITY, ("record", [])):
            self.assert_term(("let", "f", definition, X))


class Order(TermCase):
    def test_first_of_several(self):
        self.assert_wrong(("app", None, None), (0,))
        self.assert_wrong(("app", ("app", X, None), None), (0, 1))
        self.assert_wrong(("app", X, ("app", None, None)), (1, 0))
        self.assert_wrong(("app", under(5, None), None), (0,) * 6)
        self.assert_wrong(("if", X, ("fun", "x", None), None), (1, 0))
        self.assert_wrong(("tuple", [X, ("tuple", [X, None]), None]), (1, 1))
        self.assert_wrong(("record", [("a", X), ("b", ("field", 1, "x")), ("c", 1)]), (1, 0))
        self.assert_wrong(("with", ("field", 1, "x"), "x", 1), (0, 0))
        self.assert_wrong(("let", "x", ("part", 0, 2, 1), 1), (0, 0))
        self.assert_wrong(("rec", "f", ("fun", "x", 1), 1), (0, 0))

    def test_outer_one_ahead_of_inner_one(self):
        self.assert_wrong(("fun", "X", None))
        self.assert_wrong(("app", ("fun", "X", None), None), (0,))
        self.assert_wrong(("app", None, X, X))
        self.assert_wrong(("tuple", [None]))
        self.assert_wrong(("tuple", [None] * 7))
        self.assert_wrong(("part", 2, 2, None))
        self.assert_wrong(("record", [("b", None), ("a", None)]))
        self.assert_wrong(("field", None, "X"))
        self.assert_wrong(("with", None, 0, None))
        self.assert_wrong(("rec", "f", None, None))
        self.assert_wrong(("rec", "F", ("fun", "x", None), None))
        self.assert_wrong(("let", "X", None, None))

    def test_path_is_a_tuple_of_integers(self):
        with self.assertRaises(InvalidTerm) as caught:
            check_term(("app", X, ("app", None, X)))
        self.assertEqual(repr(caught.exception.path), "(1, 0)")


class Limits(TermCase):
    def test_nodes(self):
        for count in (1, 2, 3, 398, 399, 400):
            self.assert_term(sized(count))
        for count in (401, 402, 403, 800, 5000):
            self.assert_limit(sized(count), 400)

    def test_nodes_of_wide_terms(self):
        six = ("tuple", [X] * 6)
        wide = ("tuple", [("tuple", [("tuple", [six] * 6)] * 6)] * 6)
        self.assert_limit(wide, 400)
        many = ("record", [(name, ("record", fields(12))) for name in names(12)])
        self.assert_term(("app", many, many))
        self.assert_limit(("tuple", [many, many, many]), 400)

    def test_depth(self):
        for levels in (0, 1, 98, 99):
            self.assert_term(under(levels, X))
            self.assert_term(under(levels, ("record", [])))
        for levels in (100, 101, 250):
            self.assert_limit(under(levels, X), 100)
            self.assert_limit(under(levels, ("record", [])), 100)

    def test_depth_in_every_kind(self):
        for around in (lambda a: ("fun", "x", a), lambda a: ("app", a, X), lambda a: ("app", X, a),
                       lambda a: ("let", "x", a, X), lambda a: ("let", "x", X, a),
                       lambda a: ("rec", "f", IDENTITY, a), lambda a: ("if", a, X, X), lambda a: ("if", X, a, X),
                       lambda a: ("if", X, X, a), lambda a: ("tuple", [a, X]), lambda a: ("tuple", [X, X, a]),
                       lambda a: ("part", 1, 6, a), lambda a: ("record", [("x", a)]),
                       lambda a: ("record", [("x", X), ("y", a)]), lambda a: ("field", a, "x"),
                       lambda a: ("with", a, "x", X), lambda a: ("with", X, "x", a)):
            self.assert_term(nested(96, around))
            self.assert_limit(nested(101, around, ("record", [])), 100)
            self.assert_limit(nested(2000, around), 100)

    def test_a_wrong_value_counts_as_a_node(self):
        self.assert_wrong(("app", sized(398), None), (1,))
        self.assert_limit(("app", sized(399), None), 400)
        self.assert_wrong(under(99, None), (0,) * 99)
        self.assert_limit(under(100, None), 100)

    def test_several_at_one_node(self):
        # The innermost value has 100 nodes around it, and the number 400 or 399.
        for value in (X, None, ("fun", "X", None), []):
            self.assert_limit(("app", sized(300), under(99, value)), 400)
            self.assert_limit(("app", sized(299), under(99, value)), 100)
        # The innermost value has 99 nodes around it, and the number 400 or 399.
        self.assert_term(("app", sized(300), under(98, X)))
        self.assert_wrong(("app", sized(300), under(98, None)), (1,) + (0,) * 98)
        self.assert_limit(("app", sized(301), under(98, X)), 400)
        self.assert_limit(("app", sized(301), under(98, None)), 400)

    def test_several_at_several_nodes(self):
        self.assert_limit(("app", under(99, X), None), 100)
        self.assert_wrong(("app", None, under(99, X)), (0,))
        self.assert_limit(("app", sized(400), under(99, X)), 400)
        self.assert_limit(("app", under(99, X), sized(400)), 100)
        self.assert_limit(("app", sized(400), None), 400)
        self.assert_wrong(("app", None, sized(400)), (0,))
        self.assert_wrong(("tuple", [under(98, X), None, sized(400)]), (1,))

    def test_equal_parts_count_each_time(self):
        self.assert_limit(nested(60, lambda value: ("app", value, value)), 400)
        self.assert_limit(nested(60, lambda value: ("tuple", [value, value])), 400)
        self.assert_term(nested(7, lambda value: ("app", value, value)))
        self.assert_limit(nested(8, lambda value: ("app", value, value)), 400)

    def test_deep_values(self):
        for around in (lambda value: [value], lambda value: (value,), lambda value: {0: value},
                       lambda value: ((value,), [value]), lambda value: [value, (), {}]):
            deep = nested(2000, around)
            self.assert_wrong(deep)
            self.assert_wrong(("var", deep))
            self.assert_wrong(("int", deep))
            self.assert_wrong(("bool", deep))
            self.assert_wrong(("tuple", (deep, deep)))
            self.assert_wrong(("tuple", [deep, deep]), (0,))
            self.assert_wrong(("part", deep, 2, X))
            self.assert_wrong(("part", 0, deep, X))
            self.assert_wrong(("record", [deep]))
            self.assert_wrong(("record", [(deep, X)]))
            self.assert_wrong(("record", [("x", deep)]), (0,))
            self.assert_wrong(("field", X, deep))
            self.assert_wrong(("rec", "f", deep, X))
            self.assert_wrong(("rec", "f", ("fun", deep, X), X), (0,))
            self.assert_wrong((deep, X))


if __name__ == "__main__":
    unittest.main()
