"""Terms and other values that several tests use."""

import re

from vasttypes.errors import (InvalidBound, InvalidName, InvalidPath, InvalidTerm, InvalidText, InvalidTree,
                              LimitExceeded, NoType, VastError)
from vasttypes.graphs import vast
from vasttypes.inference import infer_in
from vasttypes.termtexts import read_term
from vasttypes.treetexts import read_tree, tree_text

X = ("var", "x")
Y = ("var", "y")
Z = ("var", "z")
IDENTITY = ("fun", "x", X)

INT, BOOL = ("int",), ("bool",)
V0, V1, V2 = ("var", 0), ("var", 1), ("var", 2)

FIELDS = {InvalidTerm: "path", InvalidPath: "path", InvalidName: "name", InvalidText: "word", InvalidTree: "path",
          InvalidBound: "argument", NoType: "path", LimitExceeded: "limit"}


def fault(function, *arguments, **named):
    """Return the class and the field of the error that a call raises, None if it raises none."""
    try:
        function(*arguments, **named)
    except VastError as error:
        return type(error), getattr(error, FIELDS[type(error)])
    return None


def sized(count):
    """Return a term with just so many nodes that is not deep."""
    if count == 1:
        return X
    if count == 2:
        return ("fun", "x", X)
    left = (count - 1) // 2
    return ("app", sized(left), sized(count - 1 - left))


def under(count, value):
    """Return a value with so many functions around it."""
    for _ in range(count):
        value = ("fun", "x", value)
    return value


def nested(count, around, value=X):
    """Return a value around which a function has put something so many times."""
    for _ in range(count):
        value = around(value)
    return value


def names(count):
    """Return an ascending list of names."""
    return [chr(ord("a") + k) for k in range(count)]


def fields(count):
    """Return a list of fields with ascending names."""
    return [(name, X) for name in names(count)]


def every_kind():
    """Return a new term with a node of each kind."""
    return ("let", "f", ("fun", "a", ("part", 1, 2, ("tuple", [("var", "a"), ("int", -7)]))),
            ("rec", "g", ("fun", "b", ("app", ("var", "g"), ("var", "f"))),
             ("if", ("bool", True),
              ("field", ("with", ("record", [("l", ("int", 1)), ("m", ("record", []))]), "l", Y), "m"),
              ("app", ("var", "g"), Z))))


# The nodes of every_kind() in the order in which they begin: the path, and the first word.
EVERY_KIND_NODES = [
    ((), "let"),
    ((0,), "fun"),
    ((0, 0), "part"),
    ((0, 0, 0), "tuple"),
    ((0, 0, 0, 0), "var"),
    ((0, 0, 0, 1), "int"),
    ((1,), "rec"),
    ((1, 0), "fun"),
    ((1, 0, 0), "app"),
    ((1, 0, 0, 0), "var"),
    ((1, 0, 0, 1), "var"),
    ((1, 1), "if"),
    ((1, 1, 0), "bool"),
    ((1, 1, 1), "field"),
    ((1, 1, 1, 0), "with"),
    ((1, 1, 1, 0, 0), "record"),
    ((1, 1, 1, 0, 0, 0), "int"),
    ((1, 1, 1, 0, 0, 1), "record"),
    ((1, 1, 1, 0, 1), "var"),
    ((1, 1, 2), "app"),
    ((1, 1, 2, 0), "var"),
    ((1, 1, 2, 1), "var"),
]


def other_values():
    """Return values of many types that are no terms, names, integers, paths, lists or tuples."""
    return [None, Ellipsis, 1j, b"", b"x", b"var", bytearray(b"x"), memoryview(b"x"), {}, {"x": X}, {0: 1},
            set(), {"x"}, {0, 1}, frozenset(), frozenset({"x"}), range(0), range(2), slice(2), object(), int, str,
            tuple, len, iter([]), (k for k in ()), lambda value: value, VastError, VastError(), InvalidPath(()),
            InvalidTerm]


def no_names():
    """Return values that are no names."""
    return ["", "abcdefghi", "a" * 1000, "A", "aB", "Z", "a1", "1", "a_", "_", "a b", " a", "a ", "a\n", "\na", "a-b",
            "`", "{", "a`", "{a", "@", "'a", "a:", 0, 1, -1, True, False, ["x"], ["a", "b"], [], ("x",), (),
            ("a", "b"), X] + other_values()


def no_integers():
    """Return values that are no integers."""
    return [True, False, "", "0", "1", "x", [], [0], (), (0,), X] + other_values()


def no_lists():
    """Return values that are no lists."""
    return [True, False, 0, 1, 2, "", "ab", "xy", (), (X, X), (("x", X), ("y", X))] + other_values()


def no_nodes():
    """Return values that are no tuples of a kind of term, whatever is within them."""
    return [0, 1, -1, True, False, "", "x", "var", "fun", [], ["var", "x"], ["int", 1], ["fun", "x", X], [X], [X, X],
            (), ((),), ((), ()), (None,), (0,), (1, 2), (True, False), ("",), ("x",), ("x", "y"), ("Var", "x"),
            ("VAR", "x"), (" var", "x"), ("lambda", "x", X), ("let ", "x", X, X), ("items", [X, X]), (b"var", "x"),
            ([], "x"), ({}, "x"), (set(), "x"), (["var"], "x"), (("var",), "x"), (X, X), (None, "x"), ("term", X),
            ("error", X), ("name", "x")] + other_values()


def random_term(source, levels, names=("f", "x", "y", "inn", "fund", "z")):
    """Return a term that is at most so deep, chosen by a random source."""
    def inner():
        return random_term(source, levels - 1, names)
    name = source.choice(names)
    kind = source.choice(["var", "int", "bool"] if levels < 2 else
                         ["var", "int", "bool", "fun", "app", "app", "let", "rec", "if", "tuple", "part", "record",
                          "field", "with"])
    if kind == "tuple":
        return (kind, [inner() for _ in range(source.randint(2, 6))])
    if kind == "record":
        return (kind, [(label, inner()) for label in sorted(source.sample(names, source.randint(0, 3)))])
    if kind == "rec":
        return (kind, name, ("fun", source.choice(names), inner()) if levels > 2 else IDENTITY, inner())
    size = source.randint(2, 6)
    return {"var": lambda: (kind, name), "int": lambda: (kind, source.randint(-12, 12)),
            "bool": lambda: (kind, source.random() < 0.5), "fun": lambda: (kind, name, inner()),
            "app": lambda: (kind, inner(), inner()), "let": lambda: (kind, name, inner(), inner()),
            "if": lambda: (kind, inner(), inner(), inner()),
            "part": lambda: (kind, source.randrange(size), size, inner()),
            "field": lambda: (kind, inner(), name), "with": lambda: (kind, inner(), name, inner())}[kind]()


# The names of the records with each tail of a random tree.
LABELS = {None: ("a", "b", "xyz"), 4: ("a",), 5: ("a", "b"), 6: ()}


def random_tree(source, levels, variables=4):
    """Return a tree that is at most so deep, with marks that are not numbered anew, chosen by a random source."""
    def inner():
        return random_tree(source, levels - 1, variables)
    kind = source.choice(["var", "var", "int", "bool"] if levels < 2 else
                         ["var", "int", "bool", "fun", "fun", "fun", "tuple", "tuple", "record", "record"])
    if kind == "var":
        return (kind, source.randrange(variables))
    if kind == "fun":
        return (kind, inner(), inner())
    if kind == "tuple":
        return (kind, [inner() for _ in range(source.choice([2, 2, 3, 6]))])
    if kind == "record":
        tail = source.choice([None, None, 4, 5, 6])
        labels = LABELS[tail] if tail is not None else sorted(source.sample(LABELS[None], source.randint(0, 3)))
        return (kind, [(label, inner()) for label in labels], tail)
    return (kind,)


def trees_within(tree):
    """Return the list of the trees directly within a tree."""
    if tree[0] == "record":
        return [inner for _, inner in tree[1]]
    return tree[1] if tree[0] == "tuple" else list(tree[1:]) if tree[0] == "fun" else []


def parts_of_tree(tree, path=()):
    """Return the list of tuples (path, tree) for all nodes of a tree, in the order in which they begin."""
    found = [(path, tree)]
    for step, inner in enumerate(trees_within(tree)):
        found.extend(parts_of_tree(inner, path + (step,)))
    return found


def tree_under(count, value):
    """Return a value with so many functions around it."""
    return nested(count, lambda inner: ("fun", INT, inner), value)


def sized_tree(count):
    """Return a tree with just so many nodes, two or more of them, that is not deep."""
    if count <= 2:
        return INT if count == 1 else ("record", [("x", BOOL)], None)
    left = (count - 1) // 2
    return ("fun", sized_tree(left), sized_tree(count - 1 - left))


def many_names(count):
    """Return an ascending list of many names."""
    return [chr(97 + k // 26) + chr(97 + k % 26) for k in range(count)]


def random_program(source, levels, scope=()):
    """Return a closed term with short names, of which a good part has a type, chosen by a random source."""
    def inner(*more):
        return random_program(source, levels - 1, (*scope, *more))
    leaves = ["var"] * 6 + ["int", "bool"] if scope else ["int", "bool"]
    kind = source.choice(leaves if levels < 2 else
                         leaves[:3] + ["fun", "fun", "app", "app", "app", "let", "let", "rec", "if", "tuple", "tuple",
                                       "part", "record", "field", "with"])
    name, label = source.choice("abcdef"), source.choice("xy")
    if kind == "rec":
        taken = source.choice("abcdef")
        body = random_program(source, max(levels - 2, 1), (*scope, name, taken))
        return (kind, name, ("fun", taken, body), inner(name, name))
    return {"var": lambda: (kind, source.choice(scope)), "int": lambda: (kind, 1), "bool": lambda: (kind, True),
            "fun": lambda: (kind, name, inner(name)), "app": lambda: (kind, inner(), inner()),
            "let": lambda: (kind, name, inner(), inner(name, name)),
            "if": lambda: (kind, ("bool", True) if source.random() < 0.6 else inner(), inner(), inner()),
            "tuple": lambda: (kind, [inner() for _ in range(source.choice([2, 2, 3]))]),
            "part": lambda: (kind, source.randrange(2), 2, inner()),
            "record": lambda: (kind, [(held, inner()) for held in source.choice(["", "x", "y", "xy"])]),
            "field": lambda: (kind, inner(), label), "with": lambda: (kind, inner(), label, inner())}[kind]()


# Terms with x at which a type comes to be within itself, each with the path of the node.
CIRCLES = [("( x x )", ()), ("( if ( x x ) then 1 else 2 )", (0,)), ("( 0 of 2 ( x x ) )", (0,)),
           ("( if true then x else ( fun y . x ) )", ()), ("( if true then ( x , 1 ) else x )", ()),
           ("( if true then { a = x } else x )", ()), ("( if true then x else ( x with a = x ) )", ()),
           ("( ( x . a ) ( if true then x else ( x . a ) ) )", (1,)), ("( let z = ( x x ) in 1 )", (0,)),
           ("( rec f = ( fun y . f ) in x )", (0,)), ("( ( fun y . ( y y ) ) x )", (0, 0)),
           ("( fun y . ( if true then ( x , y ) else ( y , ( fun z . x ) ) ) )", (0,))]

# Terms with x at which types clash, wherever something else has come to be within itself.
CLASHES = ["( 1 2 )", "( if true then ( fun y . 1 ) else x )", "( if true then x else ( fun y . 1 ) )",
           "( if true then ( 1 , true ) else x )", "( if true then { a = { } } else x )",
           "( if true then x else ( fun y . ( x with a = 1 ) ) )", "( ( x ( 0 of 2 x ) ) true )", "( x { b = x } )",
           "( let y = x in ( if ( y 1 ) then y else ( y . b ) ) )", "( if x then ( x with a = x ) else { b = x } )",
           "( rec f = ( fun y . ( if true then x else f ) ) in ( f 1 ) )", "( ( fun y . ( y . a ) ) ( x , x ) )",
           "( if true then ( fun y . y ) else ( if true then ( fun y . ( y , x ) ) else x ) )"]


def circles_ahead_of_clashes():
    """Return a list of tuples (term, path): functions of x without a type, and the paths of the first nodes."""
    found = []
    for early, path in CIRCLES:
        for late in CLASHES:
            first, last = read_term(early), read_term(late)
            found.append((("fun", "x", ("tuple", [first, last])), (0, 0, *path)))
            found.append((("fun", "x", ("tuple", [X, IDENTITY, first, X, last, last])), (0, 2, *path)))
            found.append((("fun", "x", ("let", "w", ("fun", "x", first), last)), (0, 0, 0, *path)))
            found.append((("fun", "x", ("let", "w", ("app", IDENTITY, first), ("fun", "v", last))), (0, 0, 1, *path)))
    return found


def of(text):
    """Return the Vast with a text, in which the names of variables and tails can be in any order."""
    names = list(dict.fromkeys(re.findall("'[a-z]+", text)))
    return vast(read_tree(re.sub("'[a-z]+", lambda found: "'" + chr(97 + names.index(found[0])), text)))


def text_of(big):
    """Return the text of a Vast that is small or None."""
    return None if big is None else tree_text(big.tree())


def used_often(function, count, big):
    """Return the type that results if functions of a type are used so often, the first one with a type."""
    while count > 0:
        many = min(count, 90)
        term = nested(many, lambda inner: ("app", ("var", "f"), inner), ("var", "t"))
        big = infer_in(term, {"f": function, "t": big})
        count -= many
    return big
