"""Points 24 to 26: the types of terms."""

import random
import unittest

from plain import NoPlainType, Typing
from samples import (BOOL, CIRCLES, CLASHES, IDENTITY, INT, V0, V1, X, circles_ahead_of_clashes, every_kind, fault,
                     nested, no_names, no_nodes, of, other_values, random_program, random_tree, sized, text_of, under,
                     used_often)
from vasttypes import inference
from vasttypes.errors import InvalidBound, InvalidName, InvalidPath, InvalidTerm, LimitExceeded, NoType
from vasttypes.graphs import made, towers, vast
from vasttypes.inference import definition_types, infer, infer_in, node_type
from vasttypes.terms import check_term, node_count, paths
from vasttypes.termtexts import read_term, term_text
from vasttypes.trees import check_tree

DOUBLE = ("let", "f", ("fun", "x", ("tuple", [X, X])), ("app", ("var", "f"), ("int", 1)))
ONE = ("int", 1)

# Texts of terms with those of their types.
TYPES = [
    ("1", "int"),
    ("true", "bool"),
    ("( fun x . x )", "'a -> 'a"),
    ("( fun x . ( fun y . x ) )", "'a -> 'b -> 'a"),
    ("( fun x . ( fun x . x ) )", "'a -> 'b -> 'b"),
    ("( fun f . ( fun x . ( f ( f x ) ) ) )", "('a -> 'a) -> 'a -> 'a"),
    ("( ( fun x . x ) 1 )", "int"),
    ("( fun f . ( f 1 ) )", "(int -> 'a) -> 'a"),
    ("( let f = ( fun x . ( x , x ) ) in ( f 1 ) )", "int * int"),
    ("( let f = ( fun x . x ) in ( ( f 1 ) , ( f true ) ) )", "int * bool"),
    ("( let f = ( fun x . x ) in ( ( f f ) 1 ) )", "int"),
    ("( let x = 1 in ( let x = true in x ) )", "bool"),
    ("( let x = ( fun x . x ) in x )", "'a -> 'a"),
    ("( let f = ( let g = ( fun x . x ) in ( fun y . ( g y ) ) ) in ( ( f 1 ) , ( f true ) ) )", "int * bool"),
    ("( fun x . ( let y = x in ( y , y ) ) )", "'a -> 'a * 'a"),
    ("( fun x . ( let y = ( fun z . ( x , z ) ) in ( ( y 1 ) , ( y true ) ) ) )", "'a -> ('a * int) * ('a * bool)"),
    ("( fun x . ( let y = ( fun z . x ) in ( if ( y 1 ) then ( y true ) else x ) ) )", "bool -> bool"),
    ("( fun x . ( let y = x in ( let z = ( fun w . y ) in ( ( z 1 ) , ( ( z true ) 1 ) ) ) ) )",
     "(int -> 'a) -> (int -> 'a) * 'a"),
    ("( rec f = ( fun x . ( if x then 1 else ( f x ) ) ) in f )", "bool -> int"),
    ("( rec f = ( fun x . ( f x ) ) in f )", "'a -> 'b"),
    ("( rec f = ( fun x . x ) in ( ( f 1 ) , ( f true ) ) )", "int * bool"),
    ("( rec f = ( fun f . f ) in f )", "'a -> 'a"),
    ("( rec f = ( fun x . ( let g = ( fun y . ( f y ) ) in ( g x ) ) ) in f )", "'a -> 'b"),
    ("( rec f = ( fun x . ( let y = ( f x ) in ( if true then y else x ) ) ) in f )", "'a -> 'a"),
    ("( fun x . ( rec f = ( fun y . ( if true then x else ( f y ) ) ) in ( ( f 1 ) , ( f true ) ) ) )",
     "'a -> 'a * 'a"),
    ("( if true then 1 else 2 )", "int"),
    ("( fun x . ( if x then x else false ) )", "bool -> bool"),
    ("( fun x . ( fun y . ( if true then x else y ) ) )", "'a -> 'a -> 'a"),
    ("( 1 , true , ( fun x . x ) )", "int * bool * ('a -> 'a)"),
    ("( 1 of 2 ( 1 , true ) )", "bool"),
    ("( fun p . ( 0 of 3 p ) )", "'a * 'b * 'c -> 'a"),
    ("( fun p . ( ( 0 of 2 p ) ( 1 of 2 p ) ) )", "('a -> 'b) * 'a -> 'b"),
    ("{ }", "{}"),
    ("{ a = 1 , b = ( fun x . x ) }", "{a: int, b: 'a -> 'a}"),
    ("( { a = 1 , b = true } . b )", "bool"),
    ("( fun r . ( r . x ) )", "{x: 'a | 'b} -> 'a"),
    ("( fun r . ( ( r . y ) , ( r . x ) ) )", "{x: 'a, y: 'b | 'c} -> 'b * 'a"),
    ("( fun r . ( ( r . x ) ( r . y ) ) )", "{x: 'a -> 'b, y: 'a | 'c} -> 'b"),
    ("( { a = 1 , b = true } with a = true )", "{a: bool, b: bool}"),
    ("( fun r . ( r with x = 1 ) )", "{x: 'a | 'b} -> {x: int | 'b}"),
    ("( fun r . ( r with x = ( r . y ) ) )", "{x: 'a, y: 'b | 'c} -> {x: 'b, y: 'b | 'c}"),
    ("( fun r . ( ( r with x = 1 ) with y = 2 ) )", "{x: 'a, y: 'b | 'c} -> {x: int, y: int | 'c}"),
    ("( fun r . ( if true then r else ( r with x = 1 ) ) )", "{x: int | 'a} -> {x: int | 'a}"),
    ("( fun r . ( ( r with x = r ) . x ) )", "{x: 'a | 'b} -> {x: 'a | 'b}"),
    ("( let g = ( fun r . ( r . x ) ) in ( ( g { x = 1 } ) , ( g { x = true , y = 1 } ) ) )", "int * bool"),
    ("( fun r . ( let g = ( fun s . ( r . x ) ) in ( ( g 1 ) , ( g true ) ) ) )", "{x: 'a | 'b} -> 'a * 'a"),
    ("( fun r . ( let a = ( r . x ) in ( let b = ( r . y ) in ( a , b ) ) ) )", "{x: 'a, y: 'b | 'c} -> 'a * 'b"),
    ("( fun r . ( let u = ( r with x = 1 ) in ( ( u . y ) , ( r . x ) ) ) )",
     "{x: 'a, y: 'b | 'c} -> 'b * 'a"),
    ("( fun r . ( let u = ( fun v . ( r with x = v ) ) in ( ( u 1 ) , ( u true ) , ( r . z ) ) ) )",
     "{x: 'a, z: 'b | 'c} -> {x: int, z: 'b | 'c} * {x: bool, z: 'b | 'c} * 'b"),
]

# Texts of terms without a type, each with the path.
NO_TYPES = [
    ("( 1 2 )", ()),
    ("( fun x . ( x x ) )", (0,)),
    ("( ( fun x . ( x 1 ) ) 2 )", ()),
    ("( ( fun x . ( if x then 1 else 2 ) ) 1 )", ()),
    ("( if 1 then 2 else 3 )", ()),
    ("( if true then 2 else false )", ()),
    ("( if true then 1 else ( 1 2 ) )", (2,)),
    ("( if 1 then ( 1 2 ) else ( true 1 ) )", (1,)),
    ("( fun x . ( if x then x else 1 ) )", (0,)),
    ("( 0 of 2 1 )", ()),
    ("( 0 of 2 ( 1 , 2 , 3 ) )", ()),
    ("( 2 of 3 ( 1 , 2 ) )", ()),
    ("( 0 of 2 ( ( 1 2 ) , ( true true ) ) )", (0, 0)),
    ("( 1 . x )", ()),
    ("( { } . x )", ()),
    ("( { y = 1 } . x )", ()),
    ("( { y = ( 1 1 ) } . x )", (0, 0)),
    ("( { y = 1 } with x = 1 )", ()),
    ("( 1 with x = ( 1 1 ) )", (1,)),
    ("( fun r . ( if true then r else ( r with x = r ) ) )", (0,)),
    ("( fun r . ( if true then { y = 1 } else ( r with x = 1 ) ) )", (0,)),
    ("( let x = ( 1 2 ) in 3 )", (0,)),
    ("( let x = ( fun y . ( y y ) ) in 3 )", (0, 0)),
    ("( let x = 1 in ( x x ) )", (1,)),
    ("( let f = ( fun x . ( if x then 1 else 2 ) ) in ( ( f true ) , ( f 1 ) ) )", (1, 1)),
    ("( fun f . ( ( f 1 ) , ( f true ) ) )", (0, 1)),
    ("( rec f = ( fun x . f ) in f )", (0,)),
    ("( rec f = ( fun x . ( ( f 1 ) 2 ) ) in f )", (0,)),
    ("( rec f = ( fun x . ( if x then ( f 1 ) else 2 ) ) in f )", (0,)),
    ("( rec f = ( fun x . ( if f then 1 else 2 ) ) in f )", (0,)),
    ("( rec f = ( fun x . ( 0 of 2 f ) ) in f )", (0,)),
    ("( rec f = ( fun x . x ) in ( if f then 1 else 2 ) )", (1,)),
    ("( rec f = ( fun x . ( f x ) ) in ( ( f 1 ) , ( 2 f ) ) )", (1, 1)),
    ("( ( fun z . 1 ) ( fun x . ( x x ) ) )", (1, 0)),
    ("( ( fun x . ( x x ) ) ( 1 2 ) )", (0, 0)),
    ("( 1 ( fun x . ( x x ) ) )", (1, 0)),
    ("( fun x . ( fun y . ( ( x y ) , ( y x ) ) ) )", (0, 0, 1)),
    ("( fun x . ( let y = x in ( y y ) ) )", (0, 1)),
    ("( fun x . ( let y = ( fun z . x ) in ( ( y 1 ) ( y 2 ) ) ) )", (0, 1)),
    ("( fun x . ( let y = ( x 1 ) in ( let z = ( x true ) in 1 ) ) )", (0, 1, 0)),
    ("( fun x . ( fun x . ( let y = x in ( ( y 1 ) , ( y true ) ) ) ) )", (0, 0, 1, 1)),
]


class Types(unittest.TestCase):
    def test_texts(self):
        for text, expected in TYPES:
            self.assertEqual(text_of(infer(read_term(text))), expected, text)

    def test_every_kind(self):
        self.assertEqual(text_of(infer(("fun", "y", ("fun", "z", every_kind())))), "'a -> ('b -> int) -> {}")

    def test_by_name(self):
        self.assertEqual(infer(term=IDENTITY), of("'a -> 'a"))
        self.assertEqual(infer_in(library={"x": of("int")}, term=X), of("int"))
        self.assertEqual(definition_types(term=DOUBLE), [((), of("'a -> 'a * 'a"))])
        self.assertEqual(node_type(path=(0,), term=DOUBLE), of("'a -> 'a * 'a"))

    def test_against_plain_types(self):
        source = random.Random(30)
        good = bad = 0
        for _ in range(900):
            term = random_program(source, source.choice([3, 4, 5, 6]))
            if fault(check_term, term) is not None or node_count(term) > 80:
                continue
            try:
                plain = Typing(term)
            except NoPlainType as error:
                self.assertEqual(fault(infer, term), (NoType, error.path), term)
                bad += 1
                continue
            good += 1
            self.assertEqual(infer(term).tree(), plain.tree_at(()), term)
            self.assertEqual([(path, big.tree()) for path, big in definition_types(term)], plain.definitions, term)
            for path in source.sample(paths(term), min(3, node_count(term))):
                self.assertEqual(node_type(term, path).tree(), plain.tree_at(path), (term, path))
        self.assertGreater(min(good, bad), 100)

    def test_large_types(self):
        text = "( fun y . ( x ( x y ) ) )"
        term = X
        for _ in range(8):
            term = ("let", "x", read_term(text), term)
        term = ("let", "x", ("fun", "y", ("tuple", [("var", "y"), ("var", "y")])), term)
        self.assertEqual(infer(term), made_of_towers(256))
        self.assertEqual([big.node_total() for _, big in definition_types(term)], [2 ** k + 2 for k in range(9)])

    def test_long_terms(self):
        # Deeper or longer terms than these there are none.
        self.assertEqual([infer(under(98, ONE)).height(), infer(under(98, ONE)).node_total()], [99, 197])
        items = nested(3, lambda value: ("tuple", [value] * 6), ONE)
        self.assertEqual(infer(items).node_total(), 4)
        term = nested(48, lambda value: ("let", "x", ("fun", "x", X), value), ("app", X, ONE))
        self.assertEqual(text_of(infer(term)), "int")
        term = nested(98, lambda value: ("app", IDENTITY, value), ONE)
        self.assertEqual((node_count(term), text_of(infer(term))), (295, "int"))

    def test_arguments_stay(self):
        term = read_term("( fun r . ( let u = ( r with x = ( 1 , 2 ) ) in { a = u , b = ( u . y ) } ) )")
        before = repr(term)
        infer(term), definition_types(term), node_type(term, (0, 1))
        self.assertEqual(repr(term), before)
        library = {"f": of("'a -> 'a * 'a"), "x": of("int")}
        infer_in(("app", ("var", "f"), X), library)
        self.assertEqual(library, {"f": of("'a -> 'a * 'a"), "x": of("int")})
        self.assertEqual(text_of(library["f"]), "'a -> 'a * 'a")


def made_of_towers(count):
    """Return the Vast of the functions from a variable to its tower of a height that towers() may not have."""
    return used_often(of("('a -> 'b) -> 'a -> 'b * 'b"), count, of("'a -> 'a"))


class NoTypes(unittest.TestCase):
    def test_paths(self):
        for text, path in NO_TYPES:
            term = read_term(text)
            for function in (infer, definition_types, lambda term: node_type(term, None),
                             lambda term: infer_in(term, {})):
                self.assertEqual(fault(function, term), (NoType, path), text)

    def test_first_in_the_order_of_ends(self):
        for text, path in (("( ( 1 2 ) ( true 3 ) )", (0,)), ("( 1 ( true 3 ) )", (1,)),
                           ("{ a = ( 1 2 ) , b = ( 1 2 ) }", (0,)), ("( let x = 1 in ( ( x x ) ( 1 2 ) ) )", (1, 0)),
                           ("( ( fun x . ( x x ) ) ( fun x . ( 1 1 ) ) )", (0, 0)),
                           ("( fun x . ( ( x 1 ) ( ( x true ) ( x x ) ) ) )", (0, 1, 0)),
                           ("( rec f = ( fun x . ( f ( 1 1 ) ) ) in ( 2 2 ) )", (0, 0, 1)),
                           ("( rec f = ( fun x . ( f f ) ) in ( 2 2 ) )", (0, 0)),
                           ("( rec f = ( fun x . ( x f ) ) in ( 2 2 ) )", (0,))):
            self.assertEqual(fault(infer, read_term(text)), (NoType, path), text)

    def test_circles_are_found_at_their_node(self):
        # The circle arises at the first of many nodes, and types clash or become too large only later.
        circle = ("app", X, X)
        for later in ("( 1 2 )", "( let y = ( 1 2 ) in 3 )", "( let y = ( fun z . z ) in ( y 1 ) )",
                      "( let y = x in y )", "( let y = ( x 1 ) in ( if y then 1 else 2 ) )", "( x true )"):
            term = ("fun", "x", ("tuple", [X, circle, read_term(later), X]))
            self.assertEqual(fault(infer, term), (NoType, (0, 1)), later)
        growth = read_term("( let y = ( fun z . ( x , z ) ) in y )")
        self.assertEqual(fault(infer, ("fun", "x", ("app", circle, growth))), (NoType, (0, 0)))

    def test_circles_ahead_of_clashes(self):
        for term, path in circles_ahead_of_clashes():
            for function in (infer, definition_types, lambda term: node_type(term, None),
                             lambda term: infer_in(term, {})):
                self.assertEqual(fault(function, term), (NoType, path), term)

    def test_clashes_ahead_of_circles(self):
        for early, place in (("( 1 2 )", ()), ("( if true then ( fun y . 1 ) else { a = x } )", ()),
                             ("( ( x 1 ) ( x . a ) )", (1,)), ("( 0 of 2 ( 1 , 2 , x ) )", ()),
                             ("( if 1 then ( fun y . x ) else x )", ())):
            for late, _ in CIRCLES:
                term = ("fun", "x", ("tuple", [X, read_term(early), read_term(late)]))
                self.assertEqual(fault(infer, term), (NoType, (0, 1, *place)), term)

    def test_clashes_that_make_circles(self):
        # What would be equal in part at the node where types clash is within itself; so it is at none ahead of it.
        for text, path in (("( fun x . ( 1 , ( if true then ( 1 , x ) else ( true , ( fun y . x ) ) ) ) )", (0, 1)),
                           ("( fun x . ( if true then ( x , 1 ) else ( ( fun y . x ) , true ) ) )", (0,)),
                           ("( fun x . ( if x then ( x , x ) else x ) )", (0,)),
                           ("( fun x . ( rec f = ( fun y . ( ( f x ) , f ) ) in f ) )", (0, 0)),
                           ("( fun x . ( { a = 1 , b = x } , ( if true then { a = 1 , b = x } else "
                            "{ a = true , b = ( x , x ) } ) ) )", (0, 1))):
            self.assertEqual(fault(infer, read_term(text)), (NoType, path), text)

    def test_drawn_circles_and_clashes(self):
        source = random.Random(31)
        ends = []
        for _ in range(1500):
            items = [random_program(source, 3, ("x", "x", "y", "z")) for _ in range(source.randint(0, 2))]
            items.insert(source.randint(0, len(items)), read_term(source.choice(CIRCLES)[0]))
            items.insert(source.randint(0, len(items)), read_term(source.choice(CLASHES)))
            term = ("fun", "z", ("fun", "y", ("fun", "x", ("tuple", items))))
            with self.assertRaises(NoPlainType) as caught:
                Typing(term)
            path = caught.exception.path
            self.assertEqual(fault(infer, term), (NoType, path), term)
            ends.append(path[3:4])
        for step in range(3):
            self.assertGreater(ends.count((step,)), 50)

    def test_circles_by_tails(self):
        for text, path in (("( fun r . ( if true then r else ( r with x = r ) ) )", (0,)),
                           ("( fun r . ( fun s . ( if true then ( ( r . x ) , r ) else ( s , ( s . y ) ) ) ) )", None),
                           ("( fun r . ( fun s . ( ( if true then ( r . x ) else s ) , ( if true then s else r ) ) ) )",
                            (0, 0, 1))):
            found = fault(infer, read_term(text))
            plain = None
            try:
                Typing(read_term(text))
            except NoPlainType as error:
                plain = (NoType, error.path)
            self.assertEqual(found, plain)
            if path is not None:
                self.assertEqual(found, (NoType, path))

    def test_far_behind(self):
        term = nested(96, lambda value: ("fun", "y", value), ("app", ONE, ONE))
        self.assertEqual(fault(infer, term), (NoType, (0,) * 96))
        term = nested(97, lambda value: ("app", IDENTITY, value), ("app", ONE, ONE))
        self.assertEqual(fault(infer, term), (NoType, (1,) * 97))


class Names(unittest.TestCase):
    def test_first_free_name(self):
        for text, name in (("x", "x"), ("( y x )", "y"), ("( fun x . ( z y ) )", "z"), ("( let x = x in x )", "x"),
                           ("( let f = ( fun g . ( f g ) ) in f )", "f"), ("( rec f = ( fun x . ( g f ) ) in x )", "g"),
                           ("( rec f = ( fun x . x ) in x )", "x"), ("( x with a = y )", "x"), ("( if b then a else c )", "b"),
                           ("{ a = zz , b = aa }", "zz"), ("( ( fun x . x ) x )", "x"), ("( 1 , c , b , a )", "c")):
            for function in (infer, definition_types, lambda term: node_type(term, None),
                             lambda term: infer_in(term, {}), lambda term: infer_in(term, {"u": of("int")})):
                self.assertEqual(fault(function, read_term(text)), (InvalidName, name))

    def test_names_come_before_types(self):
        self.assertEqual(fault(infer, read_term("( ( 1 2 ) x )")), (InvalidName, "x"))
        self.assertEqual(fault(infer_in, read_term("( ( 1 2 ) ( y x ) )"), {"y": of("'a")}), (InvalidName, "x"))

    def test_the_innermost_name_is_meant(self):
        library = {"x": of("bool"), "f": of("'a -> 'a")}
        for text, expected in (("( fun x . x )", "'a -> 'a"), ("( let x = 1 in x )", "int"), ("( let x = x in x )", "bool"),
                               ("( ( fun x . x ) x )", "bool"), ("( rec f = ( fun y . ( f y ) ) in f )", "'a -> 'b"),
                               ("( f x )", "bool"), ("( rec x = ( fun x . x ) in ( x 1 ) )", "int")):
            self.assertEqual(text_of(infer_in(read_term(text), library)), expected)


class Libraries(unittest.TestCase):
    def test_each_use_has_an_instance(self):
        library = {"id": of("'a -> 'a"), "pair": of("'a -> 'a * 'a"), "one": of("int"), "get": of("{x: 'a | 'b} -> 'a"),
                   "any": of("'a"), "row": of("{| 'a} -> {x: int | 'b}")}
        for text, expected in (("( id , id )", "('a -> 'a) * ('b -> 'b)"), ("( ( id 1 ) , ( id true ) )", "int * bool"),
                               ("( pair ( pair one ) )", "(int * int) * (int * int)"), ("( any any )", "'a"),
                               ("( ( get { x = 1 } ) , ( get { x = true , y = 1 } ) )", "int * bool"),
                               ("( any , any )", "'a * 'b"), ("( fun x . ( get x ) )", "{x: 'a | 'b} -> 'a"),
                               ("( let f = id in ( ( f 1 ) , ( f f ) ) )", "int * ('a -> 'a)"),
                               ("( rec one = ( fun x . ( one x ) ) in ( id one ) )", "'a -> 'b"),
                               ("( ( row { y = 1 } ) . y )", "'a"), ("( row , row )",
                                "({| 'a} -> {x: int | 'b}) * ({| 'c} -> {x: int | 'd})")):
            self.assertEqual(text_of(infer_in(read_term(text), library)), expected, text)
        self.assertEqual(fault(infer_in, read_term("( pair ( one one ) )"), library), (NoType, (1,)))

    def test_random_libraries(self):
        source = random.Random(31)
        checked = 0
        for _ in range(300):
            trees = {name: random_tree(source, 3, 2) for name in ("p", "q")}
            term = random_program(source, 4, ("p", "q", "q"))
            if any(fault(check_tree, tree) for tree in trees.values()) or node_count(term) > 60:
                continue
            try:
                expected = Typing(term, trees).tree_at(())
            except NoPlainType as error:
                expected = (NoType, error.path)
            library = {name: vast(tree) for name, tree in trees.items()}
            found = fault(infer_in, term, library) or infer_in(term, library).tree()
            self.assertEqual(found, expected, (term, trees))
            checked += 1
        self.assertGreater(checked, 200)

    def test_large_types(self):
        pair = of("'a -> 'a * 'a")
        self.assertEqual(infer_in(("app", ("var", "f"), ("var", "t")), {"f": pair, "t": towers(300)}).node_total(), 302)
        big = used_often(pair, 598, towers(400))
        self.assertEqual(big.node_total(), 999)
        self.assertEqual(infer_in(X, {"x": big}), big)
        self.assertEqual(infer_in(("app", ("var", "f"), X), {"f": pair, "x": big}).node_total(), 1000)
        two = ("app", ("var", "f"), ("app", ("var", "f"), X))
        self.assertEqual(fault(infer_in, two, {"f": pair, "x": big}), (LimitExceeded, 1000))
        self.assertEqual(infer_in(("part", 0, 2, two), {"f": pair, "x": big}).node_total(), 1000)
        # What comes up on the way is not limited, except at definitions.
        self.assertEqual(text_of(infer_in(("app", ("fun", "y", ONE), two), {"f": pair, "x": big})), "int")
        self.assertEqual(fault(infer_in, ("let", "y", two, ONE), {"f": pair, "x": big}), (LimitExceeded, 1000))
        self.assertEqual(infer_in(("let", "y", ("part", 0, 2, two), ("part", 1, 2, ("var", "y"))),
                                  {"f": pair, "x": big}), big)

    def test_many_large_types(self):
        long = made("fun", [vast(V0), used_often(of("'a -> int -> 'a"), 900, vast(V0))])
        grows = infer_in(read_term("( fun x . ( ( f x ) , ( fun y . x ) ) )"), {"f": long})
        self.assertGreater(grows.node_total(), 900)
        term = nested(90, lambda inner: ("app", ("var", "f"), inner), ("var", "t"))
        self.assertEqual(fault(infer_in, term, {"f": grows, "t": towers(400)}), (LimitExceeded, 1000))
        self.assertEqual(fault(infer_in, ("app", term, term), {"f": grows, "t": towers(400)}), (NoType, ()))

    def test_wrong_libraries(self):
        big = of("int")
        for library in [{"x": None}, {"x": INT}, {"x": "int"}, {"x": big, "y": 0}, {1: big}, {None: big}, {("x",): big},
                        {"x": big, True: big}, [], [("x", big)], ("x",), "x", "", 0, None, big, {"x": [big]},
                        nested(2000, lambda value: {"x": value}, big)] + [value for value in other_values()
                                                                         if value != {}]:
            for term in (ONE, ("var", "q"), ("app", ONE, ONE)):
                self.assertEqual(fault(infer_in, term, library), (InvalidBound, "library"))
        for name in no_names():
            if isinstance(name, (str, int, bytes, tuple)):
                self.assertEqual(fault(infer_in, ONE, {name: big}), (InvalidBound, "library"))
        self.assertEqual(infer_in(ONE, {}), big)
        self.assertEqual(infer_in(ONE, {"in": big, "abcdefgh": big}), big)
        many = {chr(97 + k // 26 % 26) + chr(97 + k % 26): big for k in range(600)}
        self.assertEqual(infer_in(("var", "ww"), many), big)

    def test_errors_of_terms_come_first(self):
        for term, expected in ((("app", X, None), (InvalidTerm, (1,))), (sized(401), (LimitExceeded, 400)),
                               (under(100, X), (LimitExceeded, 100))):
            for library in ({}, None, {"x": 0}):
                self.assertEqual(fault(infer_in, term, library), expected)
            for function in (infer, definition_types, lambda term: node_type(term, None)):
                self.assertEqual(fault(function, term), expected)
        for value in no_nodes():
            self.assertEqual(fault(infer, value), (InvalidTerm, ()))
        self.assertEqual(fault(infer, nested(2000, lambda value: ("fun", "x", value), X)), (LimitExceeded, 100))


def growing(count, end):
    """Return a term with so many definitions, each with twice as many types in it as the one before, then an end."""
    term = end
    for _ in range(count):
        term = ("let", "p", read_term("( fun x . ( p ( fun y . ( p x ) ) ) )"), term)
    return ("let", "p", read_term("( fun x . ( x , 1 ) )"), term)


class Limits(unittest.TestCase):
    def test_at_a_definition(self):
        self.assertLess(infer(growing(7, ("var", "p"))).node_total(), 1000)
        totals = [big.node_total() for _, big in definition_types(growing(7, ONE))]
        self.assertEqual(totals, sorted(totals))
        for end in (ONE, ("var", "p"), ("app", ONE, ONE), ("app", ("var", "p"), ("app", ONE, ONE))):
            self.assertEqual(fault(infer, growing(12, end)), (LimitExceeded, 1000))
            self.assertEqual(fault(definition_types, growing(12, end)), (LimitExceeded, 1000))
            self.assertEqual(fault(node_type, growing(12, end), None), (LimitExceeded, 1000))

    def test_whichever_comes_first(self):
        bad = ("app", ONE, ONE)
        self.assertEqual(fault(infer, ("tuple", [growing(12, ONE), bad])), (LimitExceeded, 1000))
        self.assertEqual(fault(infer, ("tuple", [bad, growing(12, ONE)])), (NoType, (0,)))
        circle = ("fun", "x", ("app", X, X))
        self.assertEqual(fault(infer, ("tuple", [circle, growing(12, ONE)])), (NoType, (0, 0)))
        self.assertEqual(fault(infer, ("tuple", [growing(12, ONE), circle])), (LimitExceeded, 1000))
        # The circle and the type that is too large have to do with one another.
        mixed = ("fun", "q", ("tuple", [("app", ("var", "q"), ("var", "q")), growing(12, ("var", "q"))]))
        self.assertEqual(fault(infer, mixed), (NoType, (0, 0)))

    def test_at_one_node(self):
        pair = of("'a -> 'a * 'a")
        big = used_often(pair, 598, towers(400))
        library = {"f": pair, "x": big}
        two = ("app", ("var", "f"), ("app", ("var", "f"), X))
        # The definition is too large, and does not fit to the uses of its name.
        wrong = ("fun", "y", ("if", ("app", ("var", "g"), ONE), two, two))
        self.assertEqual(fault(infer_in, ("rec", "g", wrong, ONE), library), (NoType, (0,)))
        right = ("fun", "y", ("if", ("bool", True), two, ("app", ("var", "g"), ONE)))
        self.assertEqual(fault(infer_in, ("rec", "g", right, ONE), library), (LimitExceeded, 1000))

    def test_circles_before_the_only_definition(self):
        pair = of("'a -> 'a * 'a")
        library = {"f": pair, "x": used_often(pair, 598, towers(400))}
        two = ("app", ("var", "f"), ("app", ("var", "f"), X))
        circle = ("fun", "y", ("app", ("var", "y"), ("var", "y")))
        self.assertEqual(fault(infer_in, ("tuple", [circle, ("let", "y", two, ONE)]), library), (NoType, (0, 0)))
        self.assertEqual(fault(infer_in, ("tuple", [("let", "y", two, ONE), circle]), library), (LimitExceeded, 1000))

    def test_the_whole(self):
        pair = of("'a -> 'a * 'a")
        library = {"f": pair, "x": used_often(pair, 598, towers(400))}
        two = ("app", ("var", "f"), ("app", ("var", "f"), X))
        self.assertEqual(fault(infer_in, ("tuple", [two, ("app", ONE, ONE)]), library), (NoType, (1,)))
        self.assertEqual(fault(infer_in, ("fun", "y", two), library), (LimitExceeded, 1000))

    def test_node_types_that_are_too_large(self):
        grown = growing(8, ("app", ("fun", "z", ONE), ("tuple", [("var", "p")] * 4)))
        self.assertEqual(text_of(infer(grown)), "int")
        path = (1,) * 9
        self.assertEqual(node_type(grown, path), of("int"))
        self.assertEqual(fault(node_type, grown, path + (1,)), (LimitExceeded, 1000))
        self.assertEqual(fault(node_type, grown, path + (1, 4)), (InvalidPath, path + (1, 4)))
        self.assertEqual(node_type(grown, path + (1, 3)), node_type(grown, (1,) * 7 + (1, 0)))


class Definitions(unittest.TestCase):
    def test_order(self):
        term = read_term("( let a = ( let b = 1 in ( b , b ) ) in ( rec c = ( fun d . ( let e = d in e ) ) in "
                         "( let f = a in ( c f ) ) ) )")
        self.assertEqual([(path, text_of(big)) for path, big in definition_types(term)],
                         [((0,), "int"), ((), "int * int"), ((1, 0, 0), "'a"), ((1,), "'a -> 'a"),
                          ((1, 1), "int * int")])
        self.assertEqual(definition_types(ONE), [])
        self.assertEqual(definition_types(DOUBLE), [((), of("'a -> 'a * 'a"))])

    def test_as_it_is_known_when_it_ends(self):
        term = read_term("( fun x . ( let y = x in ( if y then ( let z = x in z ) else false ) ) )")
        self.assertEqual([(path, text_of(big)) for path, big in definition_types(term)],
                         [((0,), "'a"), ((0, 1, 1), "'a")])
        term = read_term("( fun x . ( ( if x then 1 else 2 ) , ( let y = x in y ) ) )")
        self.assertEqual([(path, text_of(big)) for path, big in definition_types(term)], [((0, 1), "bool")])

    def test_lists_are_new(self):
        definition_types(DOUBLE).clear()
        self.assertEqual(len(definition_types(DOUBLE)), 1)

    def test_node_types(self):
        for path, text in (((), "int * int"), ((0,), "'a -> 'a * 'a"), ((0, 0), "'a * 'a"), ((0, 0, 1), "'a"),
                           ((1,), "int * int"), ((1, 0), "int -> int * int"), ((1, 1), "int")):
            self.assertEqual(text_of(node_type(DOUBLE, path)), text)

    def test_node_types_when_all_is_known(self):
        term = read_term("( fun x . ( let y = ( fun z . ( x , z ) ) in ( if x then ( y 1 ) else ( y 2 ) ) ) )")
        for path, text in (((), "bool -> bool * int"), ((0, 0), "'a -> bool * 'a"), ((0, 0, 0, 0), "bool"),
                           ((0, 0, 0, 1), "'a"), ((0, 1, 1, 0), "int -> bool * int")):
            self.assertEqual(text_of(node_type(term, path)), text)
        term = read_term("( fun r . ( let u = ( r . x ) in ( ( r . y ) , ( u 1 ) ) ) )")
        self.assertEqual(text_of(node_type(term, (0, 0, 0))), "{x: int -> 'a, y: 'b | 'c}")
        self.assertEqual(text_of(node_type(term, (0, 0))), "int -> 'a")

    def test_wrong_paths(self):
        for path in [(2,), (0, 1), (-1,), (True,), (False, 0), (0, 0, 2), (0, 0, 0, 0), ("0",), (None,), ([],), [], [0],
                     "", 0, None, nested(2000, lambda value: (value,), 0)[0]] + other_values():
            with self.assertRaises(InvalidPath) as caught:
                node_type(DOUBLE, path)
            self.assertTrue(caught.exception.path is path)
        for path in (None, (9,)):
            self.assertEqual(fault(node_type, ("app", ONE, ONE), path), (NoType, ()))
            self.assertEqual(fault(node_type, ("app", ONE, X), path), (InvalidName, "x"))


class Generalization(unittest.TestCase):
    def test_names_of_recs_around(self):
        # Within its definition the name of a rec has one type, and so has what is defined by it there.
        for text, path in (("( rec f = ( fun x . ( let g = f in ( ( g 1 ) , ( g true ) ) ) ) in f )", (0, 0, 1, 1)),
                           ("( rec f = ( fun x . ( ( f 1 ) , ( f true ) ) ) in f )", (0, 0, 1))):
            self.assertEqual(fault(infer, read_term(text)), (NoType, path))
        term = read_term("( rec f = ( fun x . x ) in ( let g = f in ( ( g 1 ) , ( g true ) ) ) )")
        self.assertEqual(text_of(infer(term)), "int * bool")

    def test_parameters_around_that_are_hidden(self):
        text = "( fun x . ( let y = x in ( fun x . ( let z = y in ( ( z 1 ) , ( z true ) ) ) ) ) )"
        self.assertEqual(fault(infer, read_term(text)), (NoType, (0, 1, 0, 1, 1)))

    def test_tails(self):
        text = "( fun r . ( let g = ( fun s . ( if true then r else s ) ) in ( ( g { x = 1 } ) , ( g { y = 1 } ) ) ) )"
        self.assertEqual(fault(infer, read_term(text)), (NoType, (0, 1, 1)))
        text = "( fun r . ( let g = ( fun s . ( ( s . x ) , ( r . y ) ) ) in ( ( g { x = 1 } ) , ( g { x = r } ) ) ) )"
        self.assertEqual(text_of(infer(read_term(text))),
                         "{y: 'a | 'b} -> (int * 'a) * ({y: 'a | 'b} * 'a)")

    def test_texts_of_terms_do_not_matter(self):
        for text, expected in TYPES:
            self.assertEqual(term_text(read_term(text)), text)
            self.assertEqual(infer(read_term(text)), of(expected))

    def test_instances_of_large_types(self):
        big = made("fun", [vast(V0), made("tuple", [towers(300), vast(V1), vast(BOOL)])])
        found = infer_in(read_term("( ( f 1 ) , ( f 2 ) )"), {"f": big})
        self.assertEqual(found.variables(), [("var", 2 ** 300), ("var", 1), ("var", 2 ** 300), ("var", 1)])
        self.assertEqual(found.node_total(), 2 * 303 + 2)


class Places(unittest.TestCase):
    def test_places(self):
        for name in ("infer", "infer_in", "definition_types", "node_type"):
            self.assertEqual(getattr(inference, name).__module__, "vasttypes.inference")


if __name__ == "__main__":
    unittest.main()
