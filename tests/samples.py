"""Terms and other values that several tests use."""

from vasttypes.errors import InvalidPath, InvalidTerm, LimitExceeded, VastError

X = ("var", "x")
Y = ("var", "y")
Z = ("var", "z")
IDENTITY = ("fun", "x", X)

FIELDS = {InvalidTerm: "path", InvalidPath: "path", LimitExceeded: "limit"}


def fault(function, *arguments, **named):
    """Return the class and the field of the error that a call raises, None if it raises none."""
    try:
        function(*arguments, **named)
    except VastError as error:
        return type(error), getattr(error, FIELDS[type(error)])
    return None


def sized(count):
    """Return a term with just so many nodes that is not deep."""
    if count == 1:
        return X
    if count == 2:
        return ("fun", "x", X)
    left = (count - 1) // 2
    return ("app", sized(left), sized(count - 1 - left))


def under(count, value):
    """Return a value with so many functions around it."""
    for _ in range(count):
        value = ("fun", "x", value)
    return value


def nested(count, around, value=X):
    """Return a value around which a function has put something so many times."""
    for _ in range(count):
        value = around(value)
    return value


def names(count):
    """Return an ascending list of names."""
    return [chr(ord("a") + k) for k in range(count)]


def fields(count):
    """Return a list of fields with ascending names."""
    return [(name, X) for name in names(count)]


def every_kind():
    """Return a new term with a node of each kind."""
    return ("let", "f", ("fun", "a", ("part", 1, 2, ("tuple", [("var", "a"), ("int", -7)]))),
            ("rec", "g", ("fun", "b", ("app", ("var", "g"), ("var", "f"))),
             ("if", ("bool", True),
              ("field", ("with", ("record", [("l", ("int", 1)), ("m", ("record", []))]), "l", Y), "m"),
              ("app", ("var", "g"), Z))))


# The nodes of every_kind() in the order in which they begin: the path, and the first word.
EVERY_KIND_NODES = [
    ((), "let"),
    ((0,), "fun"),
    ((0, 0), "part"),
    ((0, 0, 0), "tuple"),
    ((0, 0, 0, 0), "var"),
    ((0, 0, 0, 1), "int"),
    ((1,), "rec"),
    ((1, 0), "fun"),
    ((1, 0, 0), "app"),
    ((1, 0, 0, 0), "var"),
    ((1, 0, 0, 1), "var"),
    ((1, 1), "if"),
    ((1, 1, 0), "bool"),
    ((1, 1, 1), "field"),
    ((1, 1, 1, 0), "with"),
    ((1, 1, 1, 0, 0), "record"),
    ((1, 1, 1, 0, 0, 0), "int"),
    ((1, 1, 1, 0, 0, 1), "record"),
    ((1, 1, 1, 0, 1), "var"),
    ((1, 1, 2), "app"),
    ((1, 1, 2, 0), "var"),
    ((1, 1, 2, 1), "var"),
]


def other_values():
    """Return values of many types that are no terms, names, integers, paths, lists or tuples."""
    return [None, Ellipsis, 1j, b"", b"x", b"var", bytearray(b"x"), memoryview(b"x"), {}, {"x": X}, {0: 1},
            set(), {"x"}, {0, 1}, frozenset(), frozenset({"x"}), range(0), range(2), slice(2), object(), int, str,
            tuple, len, iter([]), (k for k in ()), lambda value: value, VastError, VastError(), InvalidPath(()),
            InvalidTerm]


def no_names():
    """Return values that are no names."""
    return ["", "abcdefghi", "a" * 1000, "A", "aB", "Z", "a1", "1", "a_", "_", "a b", " a", "a ", "a\n", "\na", "a-b",
            "`", "{", "a`", "{a", "@", "'a", "a:", 0, 1, -1, True, False, ["x"], ["a", "b"], [], ("x",), (),
            ("a", "b"), X] + other_values()


def no_integers():
    """Return values that are no integers."""
    return [True, False, "", "0", "1", "x", [], [0], (), (0,), X] + other_values()


def no_lists():
    """Return values that are no lists."""
    return [True, False, 0, 1, 2, "", "ab", "xy", (), (X, X), (("x", X), ("y", X))] + other_values()


def no_nodes():
    """Return values that are no tuples of a kind of term, whatever is within them."""
    return [0, 1, -1, True, False, "", "x", "var", "fun", [], ["var", "x"], ["int", 1], ["fun", "x", X], [X], [X, X],
            (), ((),), ((), ()), (None,), (0,), (1, 2), (True, False), ("",), ("x",), ("x", "y"), ("Var", "x"),
            ("VAR", "x"), (" var", "x"), ("lambda", "x", X), ("let ", "x", X, X), ("items", [X, X]), (b"var", "x"),
            ([], "x"), ({}, "x"), (set(), "x"), (["var"], "x"), (("var",), "x"), (X, X), (None, "x"), ("term", X),
            ("error", X), ("name", "x")] + other_values()
