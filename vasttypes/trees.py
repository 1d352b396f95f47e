"""Small types as trees: what they are, and what can be put in the place of their variables and tails."""

from vasttypes.errors import InvalidBound, InvalidTree, LimitExceeded
from vasttypes.terms import are_fields, are_items
from vasttypes.wholes import is_integer, is_integer_within

MOST_NODES = 1000
MOST_DEPTH = 100
MOST_FIELDS = 400
GREATEST_MARK = 999


def is_mark(value):
    """Tell whether a value is a mark, the number of a variable or tail."""
    return is_integer_within(value, 0, GREATEST_MARK)


def inner_of_var(node):
    """Return the trees within a variable, None if its form is wrong; the next functions do so for the other kinds."""
    return () if len(node) == 2 and is_mark(node[1]) else None


def inner_of_constant(node):
    """Return the trees within an int or bool."""
    return () if len(node) == 1 else None


def inner_of_fun(node):
    """Return the trees within a fun."""
    return node[1:] if len(node) == 3 else None


def inner_of_tuple(node):
    """Return the trees within a tuple."""
    return node[1] if len(node) == 2 and are_items(node[1]) else None


def inner_of_record(node):
    """Return the trees within a record."""
    if len(node) != 3 or not are_fields(node[1], MOST_FIELDS):
        return None
    if node[2] is not None and not is_mark(node[2]):
        return None
    return [tree for _, tree in node[1]]


INNER_OF = {
    "var": inner_of_var,
    "int": inner_of_constant,
    "bool": inner_of_constant,
    "fun": inner_of_fun,
    "tuple": inner_of_tuple,
    "record": inner_of_record,
}


def inner_trees(value):
    """Return the trees directly within a node in their order, whatever they are; None for what is of no kind."""
    if not isinstance(value, tuple) or not value or not isinstance(value[0], str) or value[0] not in INNER_OF:
        return None
    inner_of = INNER_OF[value[0]]
    return inner_of(value)


def labels_of(node):
    """Return the list of the names of the fields of a node, [] for what is no record."""
    return [name for name, _ in node[1]] if node[0] == "record" else []


def fits_marks(node, marks):
    """Tell whether the mark of a node fits to those that occurred, and keep it among them."""
    if node[0] == "var":
        return marks.setdefault(node[1], None) is None
    if node[0] == "record" and node[2] is not None:
        labels = labels_of(node)
        return marks.setdefault(node[2], labels) == labels
    return True


def marks_of(value):
    """Return the dict of the marks of a tree: None for those of variables, the names of its records for a tail.

    Raise the error of the first node that has one. A list of what waits takes the place
    of recursion, since the value may be nested deeper than Python's calls can be.
    """
    marks = {}
    count = 0
    waiting = [((), value)]
    while waiting:
        path, node = waiting.pop()
        if count == MOST_NODES:
            raise LimitExceeded(MOST_NODES)
        if len(path) == MOST_DEPTH:
            raise LimitExceeded(MOST_DEPTH)
        inner = inner_trees(node)
        if inner is None or not fits_marks(node, marks):
            raise InvalidTree(path)
        count += 1
        for step in range(len(inner) - 1, -1, -1):
            waiting.append((path + (step,), inner[step]))
    return marks


def check_tree(value):
    """Raise the error of the first node of a value that keeps it from being a tree."""
    marks_of(value)


def is_tree(value):
    """Tell whether a value is a tree."""
    try:
        check_tree(value)
    except (InvalidTree, LimitExceeded):
        return False
    return True


def numbered_anew(tree, numbers):
    """Return a tree that has been checked with its marks numbered, given the numbers of those that occurred."""
    if tree[0] == "var":
        return ("var", numbers.setdefault(tree[1], len(numbers)))
    if tree[0] == "tuple":
        return ("tuple", [numbered_anew(item, numbers) for item in tree[1]])
    if tree[0] == "record":
        fields = [(name, numbered_anew(inner, numbers)) for name, inner in tree[1]]
        # The tail stands behind the fields in the text.
        return ("record", fields, None if tree[2] is None else numbers.setdefault(tree[2], len(numbers)))
    return tuple([numbered_anew(held, numbers) if isinstance(held, tuple) else held for held in tree])


def renumbered(tree):
    """Return a tree with its variables and tails numbered from 0 in the order in which they occur in its text."""
    check_tree(tree)
    return numbered_anew(tree, {})


def is_entry(entry, labels):
    """Tell whether a value can stand in a table for a variable (labels is None), or for the tail of such records."""
    if labels is None:
        return is_tree(entry)
    if not isinstance(entry, tuple) or len(entry) != 2 or not is_tree(("record", *entry)):
        return False
    return not any([name in labels for name, _ in entry[0]])


def is_table(value, marks):
    """Tell whether a value is a table of what is put in the place of some of these marks."""
    if not isinstance(value, dict):
        return False
    for mark, entry in value.items():
        if not is_integer(mark) or mark not in marks or not is_entry(entry, marks[mark]):
            return False
    return True


def with_entries(tree, table):
    """Return a tree with the very entries of a table in it."""
    if tree[0] == "var":
        return table.get(tree[1], tree)
    if tree[0] == "tuple":
        return ("tuple", [with_entries(item, table) for item in tree[1]])
    if tree[0] == "record":
        fields = [(name, with_entries(inner, table)) for name, inner in tree[1]]
        more, tail = table.get(tree[2], ([], tree[2]))
        return ("record", sorted(fields + more, key=lambda field: field[0]), tail)
    return tuple([with_entries(held, table) if isinstance(held, tuple) else held for held in tree])


def copied_tree(tree):
    """Return a tree equal to a tree that has been checked, with new tuples and lists throughout."""
    if tree[0] == "tuple":
        return ("tuple", [copied_tree(item) for item in tree[1]])
    if tree[0] == "record":
        return ("record", [(name, copied_tree(inner)) for name, inner in tree[1]], tree[2])
    return tuple([copied_tree(held) if isinstance(held, tuple) else held for held in tree])


def substituted(tree, table):
    """Return a tree with the entries of a table in the place of variables and tails, all at once."""
    marks = marks_of(tree)
    if not is_table(table, marks):
        raise InvalidBound("table")
    result = with_entries(tree, table)
    # An entry may stand at so many places that only a result that has been checked is copied.
    check_tree(result)
    return copied_tree(result)
