"""Points 8 and 9: the texts of terms."""

import random
import unittest

from grammar import TERMS, first_wrong
from samples import (IDENTITY, X, Y, every_kind, fault, fields, nested, no_nodes, other_values, random_term, sized,
                     under)
from vasttypes import termtexts
from vasttypes.errors import InvalidName, InvalidTerm, InvalidText, LimitExceeded
from vasttypes.termtexts import read_term, term_text
from vasttypes.terms import check_term

WORDS = ["fun", "let", "rec", "in", "if", "then", "else", "of", "with", "true", "false"]
BEYOND = 10 ** 30 + 1

# Terms of each kind with their texts.
TEXTS = [
    (X, "x"),
    (("var", "abcdefgh"), "abcdefgh"),
    (("int", 0), "0"),
    (("int", 12), "12"),
    (("int", -3), "-3"),
    (("int", 10 ** 30), "1" + "0" * 30),
    (("int", -10 ** 30), "-1" + "0" * 30),
    (("bool", True), "true"),
    (("bool", False), "false"),
    (("fun", "x", Y), "( fun x . y )"),
    (("app", X, Y), "( x y )"),
    (("app", ("int", 1), ("int", -2)), "( 1 -2 )"),
    (("let", "f", X, Y), "( let f = x in y )"),
    (("rec", "f", IDENTITY, Y), "( rec f = ( fun x . x ) in y )"),
    (("if", ("bool", True), X, Y), "( if true then x else y )"),
    (("tuple", [X, Y]), "( x , y )"),
    (("tuple", [("int", 1), ("int", 2), X, Y, X, ("bool", False)]), "( 1 , 2 , x , y , x , false )"),
    (("part", 0, 2, X), "( 0 of 2 x )"),
    (("part", 5, 6, ("int", 3)), "( 5 of 6 3 )"),
    (("record", []), "{ }"),
    (("record", [("x", Y)]), "{ x = y }"),
    (("record", [("x", Y), ("y", ("record", []))]), "{ x = y , y = { } }"),
    (("record", fields(12)), "{ " + " , ".join([name + " = x" for name in "abcdefghijkl"]) + " }"),
    (("field", X, "y"), "( x . y )"),
    (("field", ("int", 1), "y"), "( 1 . y )"),
    (("with", X, "n", Y), "( x with n = y )"),
    (("with", ("int", 1), "n", Y), "( 1 with n = y )"),
    (("app", ("part", 1, 2, X), ("part", 0, 2, X)), "( ( 1 of 2 x ) ( 0 of 2 x ) )"),
]

DOUBLE = ("let", "f", ("fun", "x", ("tuple", [X, X])), ("app", ("var", "f"), ("int", 1)))


class Written(unittest.TestCase):
    def test_each_kind(self):
        for term, text in TEXTS:
            self.assertEqual(term_text(term), text)
        self.assertEqual(term_text(DOUBLE), "( let f = ( fun x . ( x , x ) ) in ( f 1 ) )")

    def test_every_kind(self):
        self.assertEqual(term_text(every_kind()),
                         "( let f = ( fun a . ( 1 of 2 ( a , -7 ) ) ) in ( rec g = ( fun b . ( g f ) ) in ( if true "
                         "then ( ( { l = 1 , m = { } } with l = y ) . m ) else ( g z ) ) ) )")

    def test_names_that_only_begin_with_such_words(self):
        for word in WORDS:
            name = word + "x"
            self.assertEqual(term_text(("fun", name, ("var", name))), f"( fun {name} . {name} )")
            self.assertEqual(term_text(("record", [(word + "a", X)])), "{ " + word + "a = x }")
            self.assertEqual(read_term(f"( {name} . {name} )"), ("field", ("var", name), name))

    def test_words_that_are_names(self):
        for word in WORDS:
            for term in (("var", word), ("fun", word, X), ("fun", "x", ("var", word)), ("let", word, X, Y),
                         ("rec", word, IDENTITY, Y), ("record", [(word, X)]), ("field", X, word),
                         ("with", X, word, Y), ("part", 0, 2, ("var", word)), ("tuple", [X, ("var", word)]),
                         ("if", X, Y, ("var", word)), ("record", [("a", X), (word, X)])):
                self.assertEqual(fault(term_text, term), (InvalidName, word), term)

    def test_first_in_the_order_of_the_text(self):
        one, other = ("var", "in"), ("var", "of")
        for term in (("fun", "in", other), ("app", one, other), ("let", "in", other, other),
                     ("let", "x", one, other), ("rec", "in", ("fun", "of", X), X),
                     ("rec", "f", ("fun", "in", other), X), ("rec", "f", ("fun", "x", one), other),
                     ("if", one, other, X), ("if", X, one, other), ("tuple", [X, one, other]),
                     ("part", 0, 2, ("app", one, other)), ("record", [("in", other)]),
                     ("record", [("a", one), ("of", X)]), ("record", [("in", X), ("of", X)]), ("field", one, "of"),
                     ("with", one, "of", X), ("with", X, "in", other), ("with", one, "x", other)):
            self.assertEqual(fault(term_text, term), (InvalidName, "in"), term)

    def test_errors_of_terms_come_first(self):
        self.assertEqual(fault(term_text, ("app", ("var", "in"), None)), (InvalidTerm, (1,)))
        self.assertEqual(fault(term_text, sized(401)), (LimitExceeded, 400))
        self.assertEqual(fault(term_text, under(100, ("var", "in"))), (LimitExceeded, 100))
        for value in no_nodes():
            self.assertEqual(fault(term_text, value), (InvalidTerm, ()))
        for around in (lambda value: ("fun", "x", value), lambda value: ("tuple", [X, value])):
            self.assertEqual(fault(term_text, nested(2000, around)), (LimitExceeded, 100))

    def test_argument(self):
        term = every_kind()
        self.assertEqual(term_text(term=term), term_text(term))
        self.assertEqual(repr(term), repr(every_kind()))


class Read(unittest.TestCase):
    def assert_wrong(self, text, word):
        self.assertEqual(fault(read_term, text), (InvalidText, word), text)

    def test_each_kind(self):
        for term, text in TEXTS:
            self.assertEqual(repr(read_term(text)), repr(term))

    def test_what_was_written(self):
        for term in (every_kind(), DOUBLE, sized(400), under(99, X)):
            self.assertEqual(repr(read_term(term_text(term))), repr(term))
        source = random.Random(8)
        for _ in range(300):
            term = random_term(source, 4)
            if fault(check_term, term) is None:
                self.assertEqual(repr(read_term(term_text(term))), repr(term))

    def test_results_are_new(self):
        text = "{ a = ( x , { } ) }"
        first = read_term(text)
        first[1][0][1][1].clear()
        first[1].clear()
        self.assertEqual(read_term(text=text), ("record", [("a", ("tuple", [X, ("record", [])]))]))

    def test_no_strings(self):
        for value in [0, 1, True, X, [], ["x"], ("x",), DOUBLE] + other_values():
            self.assert_wrong(value, -1)
        for around in (lambda value: [value], lambda value: (value,), lambda value: {0: value}):
            self.assert_wrong(nested(2000, around, "x"), -1)

    def test_blanks(self):
        for text, word in (("", 0), (" ", 0), ("  ", 0), (" x", 0), ("x ", 1), ("x  ", 1), ("( x  y )", 2),
                           ("(  x y )", 1), ("( x y ) ", 4), ("( x y  )", 3), ("x\n", 0), ("x\ty", 0), ("( x\ny )", 1),
                           ("(x y)", 0), ("{x = y}", 0), ("{ x=y }", 1), ("( x, y )", 1)):
            self.assert_wrong(text, word)

    def test_integers(self):
        for text in ("-0", "01", "00", "+1", "-", "--1", "-01", "1-", "1.0", "1_0", "0x1", "1e3", "-a", "1a", "00000"):
            self.assert_wrong(text, 0)
            self.assert_wrong(f"( x {text} )", 2)
            self.assert_wrong(f"( {text} of 2 x )", 1)
            self.assert_wrong(f"( 0 of {text} x )", 3)
        self.assertEqual(repr(read_term("-10")), "('int', -10)")

    def test_names(self):
        for name in ("abcdefghi", "X", "aB", "a1", "a_", "'a", "a-b", "@", "x.", "<"):
            for text, word in (("{0}", 0), ("( fun {0} . x )", 2), ("( let {0} = x in x )", 2),
                               ("( rec {0} = x in x )", 2), ("( x . {0} )", 3), ("( x with {0} = x )", 3),
                               ("( x {0} )", 2), ("( {0} x )", 1)):
                self.assert_wrong(text.format(name), word)
            self.assert_wrong("{ " + name + " = x }", 1)
            self.assert_wrong("{ x = x , " + name + " = x }", 5)

    def test_words_are_no_names(self):
        for word in WORDS:
            self.assert_wrong(f"( fun {word} . x )", 2)
            self.assert_wrong(f"( let {word} = x in x )", 2)
            self.assert_wrong(f"( x . {word} )", 3)
            self.assert_wrong(f"( x with {word} = x )", 3)
            self.assert_wrong("{ " + word + " = x }", 1)
            if word not in ("true", "false"):
                self.assert_wrong(word, 0)
                self.assert_wrong(f"( x , {word} )", 3)

    def test_words_are_missing(self):
        for _, text in TEXTS:
            words = text.split(" ")
            for many in range(1, len(words)):
                self.assert_wrong(" ".join(words[:many]), many)

    def test_words_too_many(self):
        for _, text in TEXTS:
            for more in (")", "x", "", "}", "1", ",", "( x y )"):
                self.assert_wrong(text + " " + more, len(text.split(" ")))

    def test_examples_of_wrong_words(self):
        for text, word in (("( f 1", 3), ("( f )", 2), ("( )", 1), ("( x y z )", 3), ("( x , )", 3), ("( , x )", 1),
                           ("( fun x x )", 3), ("( true of 2 x )", 2), ("( x of 2 y )", 2), ("( 1 of 2 , x )", 4),
                           ("( 1 of 2 )", 4), ("( 1 of x y )", 3), ("( ( 1 ) of 2 x )", 3), ("{ , }", 1),
                           ("{ x = 1 , }", 5), ("{ x = 1 y = 2 }", 4), ("{ x }", 2), ("( x , y z )", 4),
                           ("( x . y . z )", 4), ("( x with y )", 4), ("( let x = 1 then 2 )", 5), (")", 0), ("}", 0),
                           ("( if x then y )", 5), ("( if x else y then z )", 3), ("=", 0), (".", 0), ("( fun )", 2)):
            self.assert_wrong(text, word)

    def test_against_the_grammar(self):
        source = random.Random(9)
        more = WORDS + ["(", ")", "{", "}", ",", ".", "=", "x", "in", "1", "-2", "01", "", "X", "abcdefghi", "of"]
        reached = 0
        for _ in range(600):
            words = term_text(random_term(source, 3)).split(" ")
            for _ in range(source.choice([1, 1, 2])):
                at = source.randrange(len(words))
                words[at:at + source.randint(0, 1)] = source.choices(more, k=source.randint(0, 2)) or [")"]
            expected = first_wrong(TERMS, words)
            found = fault(read_term, " ".join(words))
            if expected is None:
                self.assertTrue(found is None or found[0] is not InvalidText, words)
            else:
                self.assertEqual(found, (InvalidText, expected), words)
                reached += 1
        self.assertGreater(reached, 300)


class ReadButNoTerms(unittest.TestCase):
    def assert_no_term(self, text, path=()):
        self.assertEqual(fault(read_term, text), (InvalidTerm, path), text[:60])

    def test_bounds_of_integers(self):
        for text in (str(BEYOND), str(-BEYOND), "9" * 31, "1" * 100, "-" + "1" * 100, "7" * 5000, "-" + "7" * 5000,
                     "1" + "0" * 100000):
            self.assert_no_term(text)
            self.assert_no_term(f"( x {text} )", (1,))
            self.assert_no_term(f"( {text} . x )", (0,))
            self.assert_no_term(f"( {text} of 2 x )")
            self.assert_no_term(f"( 0 of {text} x )")

    def test_parts(self):
        for text in ("( 2 of 2 x )", "( -1 of 2 x )", "( 0 of 1 x )", "( 0 of 0 x )", "( 0 of -2 x )", "( 6 of 7 x )",
                     "( 0 of 7 x )"):
            self.assert_no_term(text)

    def test_items_and_fields(self):
        self.assert_no_term("( " + " , ".join("abcdefg") + " )")
        self.assert_no_term("( " + " , ".join("a" * 1000) + " )")
        self.assert_no_term("{ " + " , ".join([name + " = x" for name in "abcdefghijklm"]) + " }")
        self.assert_no_term("{ b = x , a = x }")
        self.assert_no_term("{ a = x , a = x }")
        self.assert_no_term("( x { ab = x , aa = x } )", (1,))

    def test_recs(self):
        self.assert_no_term("( rec f = x in f )")
        self.assert_no_term("( rec f = 1 in f )")
        self.assert_no_term("( x ( rec f = ( let g = x in ( fun x . x ) ) in f ) )", (1,))

    def test_first_node(self):
        self.assert_no_term("( ( 2 of 2 x ) { b = x , a = x } )", (0,))
        self.assert_no_term("( x { b = ( 2 of 2 x ) , a = x } )", (1,))

    def test_limits(self):
        for term, limit in ((sized(401), 400), (under(100, X), 100)):
            # term_text does not write these.
            text = str(term).replace("('app', ", "( ").replace("('var', 'x')", "x").replace("('fun', 'x', ", "( fun x . ")
            text = text.replace(", ", " ").replace(")", " )")
            self.assertEqual(fault(read_term, text), (LimitExceeded, limit))

    def test_deep_texts(self):
        for begin, end in (("( fun x . ", " )"), ("( x ", " )"), ("{ x = ", " }"), ("( x , ", " )"),
                           ("( let x = y in ", " )"), ("( 0 of 2 ", " )")):
            self.assertEqual(fault(read_term, begin * 2000 + "x" + end * 2000), (LimitExceeded, 100))
            many = len((begin * 2000).split(" ")) - 1
            self.assertEqual(fault(read_term, begin * 2000 + "x" + end * 1999), (InvalidText, many + 2000))
            self.assertEqual(fault(read_term, begin * 2000 + ")"), (InvalidText, many))
        self.assertEqual(fault(read_term, "( " * 2000 + "x ."), (InvalidText, 2002))


class Places(unittest.TestCase):
    def test_places(self):
        for name in ("term_text", "read_term"):
            self.assertEqual(getattr(termtexts, name).__module__, "vasttypes.termtexts")


if __name__ == "__main__":
    unittest.main()
