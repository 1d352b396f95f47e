"""Points 50 to 54: unfolded terms."""

import itertools
import random
import unittest

from plain import BOOL, INT, Clash, Store, numbered
from samples import (IDENTITY, X, circles_ahead_of_clashes, every_kind, fault, nested, no_integers, no_nodes, of,
                     other_values, random_program, random_term, text_of, under)
from vasttypes import unfolding
from vasttypes.errors import InvalidBound, InvalidName, InvalidPath, InvalidTerm, LimitExceeded, NoType
from vasttypes.graphs import towers
from vasttypes.inference import infer, node_type
from vasttypes.signs import text_length
from vasttypes.terms import check_term, depth, node_count, paths, term_at
from vasttypes.termtexts import read_term
from vasttypes.unfolding import (copies, unfolded_at, unfolded_depth, unfolded_number, unfolded_size, unfolded_type,
                                 unused)

DOUBLE = "( let f = ( fun x . ( x , x ) ) in ( f 1 ) )"

TEXTS = [DOUBLE, "x", "( fun x . x )", "( let x = 1 in 2 )", "( let x = x in ( x , x ) )",
         "( let x = 1 in ( let y = x in ( y , ( x , y ) ) ) )", "( let x = ( let y = 1 in ( y , y ) ) in ( x , x ) )",
         "( rec f = ( fun x . ( f x ) ) in ( f , ( f f ) ) )", "( rec f = ( fun x . ( f x ) ) in 1 )",
         "( let f = ( rec f = ( fun x . ( f x ) ) in f ) in ( f , f ) )", "( fun x . ( let x = ( x , x ) in ( x , x ) ) )",
         "( let x = 1 in ( fun x . x ) )", "( let x = 1 in ( let x = ( x , x ) in ( let x = ( x , x ) in x ) ) )",
         "( rec f = ( fun f . f ) in ( fun f . f ) )", "( let f = ( fun x . y ) in ( fun y . ( f y ) ) )",
         "( rec f = ( fun x . ( let g = ( f x ) in ( g , g ) ) ) in ( let h = f in ( h , f ) ) )",
         "( let x = { a = 1 , b = { } } in ( ( x with a = ( x . a ) ) , ( 0 of 2 ( x , { } ) ) ) )",
         "( let a = 1 in ( let b = ( a , a ) in ( let c = 2 in ( let d = b in ( if true then c else ( b , b ) ) ) ) ) )",
         "( rec f = ( fun x . ( rec g = ( fun y . ( f ( g y ) ) ) in ( g x ) ) ) in ( f 1 ) )",
         "( ( let x = 1 in x ) ( let x = 2 in x ) )", "( let u = ( let v = 1 in 2 ) in ( let w = u in 3 ) )"]


class Written:
    """A node of an unfolded term: where it comes from, its kind, and the nodes within it."""

    def __init__(self, path, uses, term, inner):
        self.path, self.uses, self.term, self.inner = path, uses, term, inner

    def nodes(self):
        return [self] + [node for inner in self.inner for node in inner.nodes()]

    def depth(self):
        return 1 + max([inner.depth() for inner in self.inner], default=0)


def inner_terms(term):
    return [term_at(term, path) for path in paths(term) if len(path) == 1]


NUMBERS = itertools.count()


def write(term, path, names, uses):
    """Write out a term, by a plain recursive walk.

    Names have a number if they are parameters, or recs within their definitions, and otherwise the let or rec: its
    kind, definition, path, and the names around it.
    """
    kind = term[0]
    inner = inner_terms(term)
    if kind in ("let", "rec"):
        return write(inner[1], path + (1,), {**names, term[1]: (kind, inner[0], path, names)}, uses)
    if kind == "var" and isinstance(names.get(term[1]), tuple):
        word, definition, way, around = names[term[1]]
        if word == "let":
            return write(definition, way + (0,), around, uses + (path,))
        number = next(NUMBERS)
        found = write(definition, way + (0,), {**around, term[1]: number}, uses + (path,))
        return Written(way, uses + (path,), ("rec", number), [found])
    if kind == "var":
        term = ("var", names.get(term[1]))
    if kind == "fun":
        number = next(NUMBERS)
        names, term = {**names, term[1]: number}, ("fun", number)
    return Written(path, uses, term, [write(held, path + (step,), names, uses) for step, held in enumerate(inner)])


def typed(node, names, store, types):
    """Find the types of all nodes of a written out term, in which each name has one type."""
    term, kind = node.term, node.term[0]
    if kind in ("fun", "rec"):
        names = {**names, term[1]: store.variable()}
    inner = [typed(held, names, store, types) for held in node.inner]
    found = None
    if kind == "var":
        found = names[term[1]]
    elif kind in ("int", "bool"):
        found = INT if kind == "int" else BOOL
    elif kind == "fun":
        found = ("fun", names[term[1]], inner[0])
    elif kind == "rec":
        store.unify(names[term[1]], inner[0])
        found = inner[0]
    elif kind == "app":
        found = store.variable()
        store.unify(inner[0], ("fun", inner[1], found))
    elif kind == "if":
        store.unify(inner[0], BOOL)
        store.unify(inner[1], inner[2])
        found = inner[1]
    elif kind == "tuple":
        found = ("tuple", inner)
    elif kind == "part":
        items = [store.variable() for _ in range(term[2])]
        store.unify(inner[0], ("tuple", items))
        found = items[term[1]]
    elif kind == "record":
        found = ("record", [(name, held) for (name, _), held in zip(term[1], inner)], None)
    else:
        found = store.variable()
        tail = store.mark()
        store.unify(inner[0], ("record", [(term[2], found)], tail))
        if kind == "with":
            found = ("record", [(term[2], inner[1])], tail)
    types[id(node)] = found
    return found


def terms():
    """Return many small terms."""
    source = random.Random(1)
    found = [read_term(text) for text in TEXTS] + [every_kind()]
    found += [random_term(source, 5, ("f", "g", "x", "y")) for _ in range(60)]
    found += [random_program(source, 6) for _ in range(120)]
    return [term for term in found if fault(check_term, term) is None]


def chain(many, width):
    """Return a term with so many definitions, each a tuple of the one before it so many times."""
    term = ("var", f"x{'abcdefghijklmnopqrstuvwxyz'[many % 26]}{'abcdefghij'[many // 26]}")
    for k in range(many, 0, -1):
        one, two = [f"x{'abcdefghijklmnopqrstuvwxyz'[j % 26]}{'abcdefghij'[j // 26]}" for j in (k, k - 1)]
        term = ("let", one, ("tuple", [("var", two)] * width), term)
    return ("let", "xaa", ("int", 1), term)


class Small(unittest.TestCase):
    def test_written_out(self):
        many = 0
        for term in terms():
            root = write(term, (), {}, ())
            nodes = root.nodes()
            if len(nodes) > 400:
                continue
            many += any(len(node.uses) > 1 for node in nodes)
            self.assertEqual(unfolded_size(term), len(nodes))
            self.assertEqual(unfolded_depth(term), root.depth())
            self.assertEqual([unfolded_at(term, k) for k in range(len(nodes))], [(node.path, node.uses) for node in nodes])
            self.assertEqual([unfolded_number(term, node.path, node.uses) for node in nodes], list(range(len(nodes))))
            counts = {path: 0 for path in paths(term)}
            for node in nodes:
                counts[node.path] += 1
            self.assertEqual([copies(term, path) for path in paths(term)], list(counts.values()))
            self.assertEqual(sum(counts.values()), len(nodes))
            gone = []
            for path in paths(term):
                if term_at(term, path)[0] in ("let", "rec"):
                    used = any(path in [term_binder(term, use) for use in node.uses] for node in nodes)
                    gone += [] if used else [path]
            self.assertEqual(unused(term), gone)
            for k in (-1, len(nodes), len(nodes) + 1):
                self.assertEqual(fault(unfolded_at, term, k), (InvalidBound, "k"))
        self.assertGreater(many, 25)

    def test_wrong_places(self):
        for term in terms()[:60]:
            right = {(node.path, node.uses) for node in write(term, (), {}, ()).nodes()}
            if len(right) > 60:
                continue
            ways = paths(term) + [(7,), (0, 9)]
            for path in ways:
                for uses in [()] + [(use,) for use in ways] + [(one, two) for one in ways[:6] for two in ways[:6]]:
                    if (path, uses) not in right:
                        self.assertEqual(fault(unfolded_number, term, path, uses), (InvalidPath, (path, uses)))

    def test_without_definitions(self):
        source = random.Random(2)
        for _ in range(40):
            term = random_term(source, 4)
            if fault(check_term, term) is None and not any(term_at(term, path)[0] in ("let", "rec") for path in paths(term)):
                self.assertEqual([unfolded_size(term), unfolded_depth(term), unused(term)],
                                 [node_count(term), depth(term), []])
                self.assertEqual([unfolded_at(term, k) for k in range(node_count(term))],
                                 [(path, ()) for path in paths(term)])

    def test_examples(self):
        double = read_term(DOUBLE)
        self.assertEqual([unfolded_size(double), unfolded_depth(double), unfolded_at(double, 3)],
                         [6, 4, ((0, 0, 0), ((1, 0),))])
        self.assertEqual([copies(double, path) for path in paths(double)], [0, 1, 1, 1, 1, 1, 0, 1])
        term = read_term("( rec f = ( fun x . ( f x ) ) in ( f , f ) )")
        self.assertEqual([unfolded_at(term, k) for k in range(unfolded_size(term))],
                         [((1,), ()), ((), ((1, 0),)), ((0,), ((1, 0),)), ((0, 0), ((1, 0),)), ((0, 0, 0), ((1, 0),)),
                          ((0, 0, 1), ((1, 0),)), ((), ((1, 1),)), ((0,), ((1, 1),)), ((0, 0), ((1, 1),)),
                          ((0, 0, 0), ((1, 1),)), ((0, 0, 1), ((1, 1),))])
        self.assertEqual([copies(term, path) for path in paths(term)], [2, 2, 2, 2, 2, 1, 0, 0])
        self.assertEqual(unused(read_term("( let u = ( let v = 1 in 2 ) in ( let w = u in 3 ) )")), [(), (0,), (1,)])
        self.assertEqual(unused(read_term("( let u = 1 in ( let w = u in w ) )")), [])


def term_binder(term, use):
    """Return the path of the let or rec whose definition takes the place of a use."""
    name = term_at(term, use)[1]
    for many in range(len(use) - 1, -1, -1):
        around, step = term_at(term, use[:many]), use[many]
        if around[0] in ("let", "rec") and around[1] == name and step == 1:
            return use[:many]
    return None


class Chains(unittest.TestCase):
    def test_formulas(self):
        for many, width in ((5, 2), (40, 2), (75, 3), (95, 2)):
            term = chain(many, width)
            size = sum(width ** k for k in range(many + 1))
            self.assertEqual([unfolded_size(term), unfolded_depth(term)], [size, many + 1])
            path, uses = unfolded_at(term, size - 1)
            self.assertEqual([path, len(uses)], [(0,), many + 1])
            self.assertEqual(unfolded_number(term, path, uses), size - 1)
            self.assertEqual(copies(term, (0,)), width ** many)
            self.assertEqual(copies(term, (1, 0)), width ** (many - 1))
            self.assertEqual(unused(term), [])
            if width == 2:
                self.assertEqual(infer(term).tree_size(), size)
                self.assertEqual(text_of(unfolded_type(term, size - 1)), "int")
                self.assertEqual(text_of(unfolded_type(term, many)), "int")
                self.assertEqual(text_of(unfolded_type(term, many - 1)), "int * int")
            source = random.Random(many)
            for _ in range(20):
                k = source.randrange(size)
                self.assertEqual(unfolded_number(term, *unfolded_at(term, k)), k)

    def test_functions(self):
        # Each function uses the one before it twice, so that its type doubles.
        term = ("app", ("var", "fj"), ("int", 1))
        for one, two in zip("jihgfedcb", "ihgfedcba"):
            body = ("app", ("var", "f" + two), ("app", ("var", "f" + two), ("var", "x")))
            term = ("let", "f" + one, ("fun", "x", body), term)
        term = ("let", "fa", ("fun", "x", ("tuple", [X, X])), term)
        size = unfolded_size(term)
        self.assertTrue(unfolded_type(term, 0) == infer(term))
        self.assertEqual(infer(term).height(), 2 ** 9 + 1)
        heights = set()
        for k in list(range(0, 40)) + list(range(size - 30, size)):
            path, uses = unfolded_at(term, k)
            big = unfolded_type(term, k)
            self.assertEqual(big.variables(), [])
            heights.add(big.height())
            self.assertEqual(unfolded_number(term, path, uses), k)
        self.assertGreater(len(heights), 10)


class Types(unittest.TestCase):
    def test_written_out(self):
        many = seen = 0
        source = random.Random(3)
        candidates = terms() + [random_program(source, 5 + k % 3) for k in range(4000)]
        for term in candidates:
            # A definition that is not used can make the type of a parameter less general.
            if fault(check_term, term) is not None or unused(term) or fault(infer, term) is not None:
                continue
            root = write(term, (), {}, ())
            nodes = root.nodes()
            if len(nodes) > 150:
                continue
            store, types = Store(), {}
            typed(root, {}, store, types)
            for k, node in enumerate(nodes):
                expected = numbered(store.whole(types[id(node)]))
                self.assertEqual(unfolded_type(term, k).tree(), expected, (term, k))
                seen += 1
                many += len(node.uses) > 0
            self.assertTrue(unfolded_type(term, 0) == infer(term))
        self.assertGreater(seen, 1000)
        self.assertGreater(many, 200)

    def test_examples(self):
        for text, path, uses, expected in (
                (DOUBLE, (0, 0, 0), ((1, 0),), "int"), (DOUBLE, (0,), ((1, 0),), "int -> int * int"),
                ("( rec f = ( fun x . x ) in ( ( f 1 ) , ( f true ) ) )", (), ((1, 0, 0),), "int -> int"),
                ("( rec f = ( fun x . x ) in ( ( f 1 ) , ( f true ) ) )", (0, 0), ((1, 1, 0),), "bool"),
                ("( fun x . ( let g = ( fun y . ( x , y ) ) in ( ( g 1 ) , ( g true ) ) ) )", (0, 0, 0), ((0, 1, 1, 0),),
                 "'a * bool"),
                ("( let f = ( fun x . ( let g = ( fun y . ( x , y ) ) in ( g 1 ) ) ) in ( f true ) )", (0, 0, 0, 0),
                 ((1, 0), (0, 0, 1, 0)), "bool * int"),
                ("( let k = ( fun x . ( ( fun y . 1 ) ( fun z . z ) ) ) in ( k true ) )", (0, 0, 1), ((1, 0),), "'a -> 'a"),
                ("( let get = ( fun r . ( r . x ) ) in ( get { a = true , x = 1 , z = { } } ) )", (0, 0, 0), ((1, 0),),
                 "{a: bool, x: int, z: {}}"),
                ("( let get = ( fun r . ( r . x ) ) in ( fun s . ( ( get s ) , ( s . y ) ) ) )", (0, 0, 0), ((1, 0, 0, 0),),
                 "{x: 'a, y: 'b | 'c}"),
                ("( let a = ( fun r . ( r . x ) ) in ( let b = ( fun s . ( ( a s ) , ( s . y ) ) ) in "
                 "( b { x = 1 , y = 2 , z = true } ) ) )", (0, 0, 0), ((1, 1, 0), (1, 0, 0, 0, 0)),
                 "{x: int, y: int, z: bool}")):
            term = read_term(text)
            number = unfolded_number(term, path, uses)
            self.assertEqual(unfolded_at(term, number), (path, uses))
            self.assertEqual(text_of(unfolded_type(term, number)), expected, text)

    def test_errors(self):
        for k in (0, -1, None, 10 ** 9):
            self.assertEqual(fault(unfolded_type, ("var", "x"), k), (InvalidName, "x"))
            self.assertEqual(fault(unfolded_type, ("app", ("int", 1), ("int", 1)), k), (NoType, ()))
            self.assertEqual(fault(unfolded_type, ("app", ("int", 1)), k), (InvalidTerm, ()))
        for wrong, path in circles_ahead_of_clashes()[:60]:
            self.assertEqual(fault(unfolded_type, wrong, None), (NoType, path))
        term = read_term(DOUBLE)
        for k in [-1, 6, 7, 10 ** 300] + no_integers():
            self.assertEqual(fault(unfolded_type, term, k), (InvalidBound, "k"))
            self.assertEqual(fault(unfolded_at, term, k), (InvalidBound, "k"))

    def test_larger_than_the_limit(self):
        # A pair of two functions of 600 parts each, of which the whole tells nothing.
        steps = "( f " * 5 + "x" + " )" * 5
        text = f"( let f = ( fun x . ( x , x ) ) in ( let g = ( fun x . {steps} ) in "
        text += "( let h = ( fun x . ( g ( g ( g ( g ( g ( g x ) ) ) ) ) ) ) in ( let i = ( fun x . "
        text += "( h ( h ( h ( h ( h ( h ( h x ) ) ) ) ) ) ) ) in "
        text += "( let w = ( fun x . ( ( fun y . 1 ) ( i ( i x ) ) ) ) in ( w ( i ( i ( i 1 ) ) ) ) ) ) ) ) )"
        term = read_term(text)
        self.assertEqual(text_of(infer(term)), "int")
        use = (1, 1, 1, 1, 1, 0)
        number = unfolded_number(term, (1, 1, 1, 1, 0, 0, 0), (use,))
        self.assertEqual(fault(unfolded_type, term, number), (LimitExceeded, 1000))
        self.assertEqual(text_of(unfolded_type(term, number - 1)), "int")
        self.assertEqual(fault(unfolded_type, term, -1), (InvalidBound, "k"))


class Wrong(unittest.TestCase):
    def test_terms(self):
        for function, more in ((unfolded_size, ()), (unfolded_depth, ()), (unfolded_at, (0,)), (copies, ((),)),
                               (unfolded_number, ((), ())), (unfolded_type, (0,)), (unused, ())):
            for value in no_nodes()[:40] + [nested(2000, lambda held: (held,))]:
                self.assertEqual(fault(function, value, *more), (InvalidTerm, ()))
            self.assertEqual(fault(function, under(100, X), *more), (LimitExceeded, 100))
            self.assertEqual(fault(function, nested(2000, lambda held: ("fun", "x", held)), *more), (LimitExceeded, 100))
            self.assertEqual(fault(function, ("fun", "x", ("app", X)), *more), (InvalidTerm, (0,)))

    def test_paths(self):
        term = read_term(DOUBLE)
        wrong = [[], [0], None, "0", 0, (True,), (0, False), (None,), ([],), (-1,), (2,), (0, 1), {}, {0},
                 nested(2000, lambda held: (held,), 0)] + other_values()
        for path in wrong:
            with self.assertRaises(InvalidPath) as caught:
                copies(term, path)
            self.assertTrue(caught.exception.path is path)
            for other, uses in ((path, ()), (path, ((1, 0),)), ((1,), path), ((0,), (path,)), ((0, 0, 0), ((1, 0), path))):
                with self.assertRaises(InvalidPath) as caught:
                    unfolded_number(term, other, uses)
                self.assertTrue(caught.exception.path[0] is other and caught.exception.path[1] is uses)
        for path, uses in (((), ()), ((0,), ()), ((1, 0), ()), ((1,), ((1, 0),)), ((0,), ((1,),)), ((0,), [(1, 0)]),
                           ((0, 0, 0), ((True, 0),)), ((0, False, 0), ((1, 0),)), ((0,), ((1, 0), (1, 0)))):
            self.assertEqual(fault(unfolded_number, term, path, uses), (InvalidPath, (path, uses)))
        self.assertEqual(unfolded_number(term, (1,), ()), 0)

    def test_arguments(self):
        term = read_term(DOUBLE)
        before = repr(term)
        self.assertEqual([unfolded_size(term=term), unfolded_depth(term=term), unfolded_at(k=3, term=term),
                          unfolded_number(uses=((1, 0),), path=(0,), term=term), copies(path=(1,), term=term),
                          text_of(unfolded_type(k=0, term=term)), unused(term=term)],
                         [6, 4, ((0, 0, 0), ((1, 0),)), 1, 1, "int * int", []])
        self.assertEqual(repr(term), before)
        unused(("let", "x", X, X)).append(())
        self.assertEqual(unused(("let", "x", X, X)), [])

    def test_places(self):
        for name in ("unfolded_size", "unfolded_depth", "unfolded_at", "unfolded_number", "copies", "unfolded_type",
                     "unused"):
            self.assertEqual(getattr(unfolding, name).__module__, "vasttypes.unfolding")
        self.assertTrue(node_type(IDENTITY, ()) == of("'a -> 'a"))
        self.assertRaises(Clash, Store().unify, INT, BOOL)
        self.assertEqual(text_length(towers(1)), 7)


if __name__ == "__main__":
    unittest.main()
