"""Terms: what they are, their nodes and paths, and their free names."""

from vasttypes.errors import InvalidPath, InvalidTerm, LimitExceeded
from vasttypes.wholes import is_integer_within

MOST_NODES = 400
MOST_DEPTH = 100
MOST_LETTERS = 8
LEAST_ITEMS = 2
MOST_ITEMS = 6
MOST_FIELDS = 12
GREATEST = 10 ** 30

# The numbers of the terms within a node in which the name of the node is bound.
BOUND_IN = {"fun": (0,), "let": (1,), "rec": (0, 1)}


def is_name(value):
    """Tell whether a value is a name."""
    if not isinstance(value, str) or not 1 <= len(value) <= MOST_LETTERS:
        return False
    return value.isascii() and value.isalpha() and value.islower()


def are_names(values):
    """Tell whether all values of a list are names."""
    for value in values:
        if not isinstance(value, str) or not 1 <= len(value) <= MOST_LETTERS:
            return False
    # The letters of all names are looked at together.
    letters = "".join(values)
    return letters == "" or (letters.isascii() and letters.isalpha() and letters.islower())


def are_ascending(names):
    """Tell whether each of the names in a list is above the one before it."""
    return sorted(names) == names and len(set(names)) == len(names)


def are_fields(value, most):
    """Tell whether a value is a list of at most so many fields with ascending names."""
    if not isinstance(value, list) or len(value) > most:
        return False
    names = []
    for field in value:
        if not isinstance(field, tuple) or len(field) != 2:
            return False
        names.append(field[0])
    return are_names(names) and are_ascending(names)


def are_items(value):
    """Tell whether a value is a list with as many items as a tuple can have."""
    return isinstance(value, list) and LEAST_ITEMS <= len(value) <= MOST_ITEMS


def begins_as_function(value):
    """Tell whether a value is a tuple that begins with "fun", whatever else it has."""
    return isinstance(value, tuple) and len(value) > 0 and value[0] == "fun"


def inner_of_var(node):
    """Return the terms within a var, None if its form is wrong; the next functions do so for the other kinds."""
    return () if len(node) == 2 and is_name(node[1]) else None


def inner_of_int(node):
    """Return the terms within an int."""
    return () if len(node) == 2 and is_integer_within(node[1], -GREATEST, GREATEST) else None


def inner_of_bool(node):
    """Return the terms within a bool."""
    return () if len(node) == 2 and isinstance(node[1], bool) else None


def inner_of_fun(node):
    """Return the terms within a fun."""
    return node[2:] if len(node) == 3 and is_name(node[1]) else None


def inner_of_app(node):
    """Return the terms within an app."""
    return node[1:] if len(node) == 3 else None


def inner_of_let(node):
    """Return the terms within a let."""
    return node[2:] if len(node) == 4 and is_name(node[1]) else None


def inner_of_rec(node):
    """Return the terms within a rec."""
    return node[2:] if len(node) == 4 and is_name(node[1]) and begins_as_function(node[2]) else None


def inner_of_if(node):
    """Return the terms within an if."""
    return node[1:] if len(node) == 4 else None


def inner_of_tuple(node):
    """Return the terms within a tuple."""
    return node[1] if len(node) == 2 and are_items(node[1]) else None


def inner_of_part(node):
    """Return the terms within a part."""
    if len(node) != 4 or not is_integer_within(node[2], LEAST_ITEMS, MOST_ITEMS):
        return None
    return node[3:] if is_integer_within(node[1], 0, node[2] - 1) else None


def inner_of_record(node):
    """Return the terms within a record."""
    if len(node) != 2 or not are_fields(node[1], MOST_FIELDS):
        return None
    return [term for _, term in node[1]]


def inner_of_field(node):
    """Return the terms within a field."""
    return node[1:2] if len(node) == 3 and is_name(node[2]) else None


def inner_of_with(node):
    """Return the terms within a with."""
    return (node[1], node[3]) if len(node) == 4 and is_name(node[2]) else None


INNER_OF = {
    "var": inner_of_var,
    "int": inner_of_int,
    "bool": inner_of_bool,
    "fun": inner_of_fun,
    "app": inner_of_app,
    "let": inner_of_let,
    "rec": inner_of_rec,
    "if": inner_of_if,
    "tuple": inner_of_tuple,
    "part": inner_of_part,
    "record": inner_of_record,
    "field": inner_of_field,
    "with": inner_of_with,
}


def inner_terms(value):
    """Return the terms directly within a node in their order, whatever they are; None for what is of no kind."""
    if not isinstance(value, tuple) or not value or not isinstance(value[0], str) or value[0] not in INNER_OF:
        return None
    inner_of = INNER_OF[value[0]]
    return inner_of(value)


def levels_if_term(value):
    """Return the list that tells for each depth which nodes of a term are there, None for a value that is no term.

    The nodes are looked at depth by depth, since this needs no paths: what is wrong with a value that is no term
    is looked for by itself.
    """
    levels = []
    count = 0
    level = (value,)
    while level:
        count += len(level)
        if count > MOST_NODES or len(levels) == MOST_DEPTH:
            return None
        levels.append(level)
        below = []
        for node in level:
            inner = inner_terms(node)
            if inner is None:
                return None
            below.extend(inner)
        level = below
    return levels


def nodes_with_paths(value):
    """Return the list of tuples (path, node) of a term, in the order in which the nodes begin.

    Raise the error of the first node that has one. A list of what waits takes the place
    of recursion, since the value may be nested deeper than Python's calls can be.
    """
    found = []
    waiting = [((), value)]
    while waiting:
        path, node = waiting.pop()
        if len(found) == MOST_NODES:
            raise LimitExceeded(MOST_NODES)
        if len(path) == MOST_DEPTH:
            raise LimitExceeded(MOST_DEPTH)
        inner = inner_terms(node)
        if inner is None:
            raise InvalidTerm(path)
        found.append((path, node))
        for step in range(len(inner) - 1, -1, -1):
            waiting.append((path + (step,), inner[step]))
    return found


def levels_of(term):
    """Return the list that tells for each depth which nodes of a term are there."""
    levels = levels_if_term(term)
    if levels is None:
        nodes_with_paths(term)
    return levels


def check_term(value):
    """Raise the error of the first node of a value that keeps it from being a term."""
    levels_of(value)


def node_count(term):
    """Return how many nodes a term has."""
    return sum([len(level) for level in levels_of(term)])


def depth(term):
    """Return how deep a term is."""
    return len(levels_of(term))


def paths(term):
    """Return the list of the paths of all nodes of a term, in the order in which these begin."""
    return [path for path, _ in nodes_with_paths(term)]


def copied(term):
    """Return a term equal to a term that has been checked, with new tuples and lists throughout."""
    if term[0] == "tuple":
        return ("tuple", [copied(item) for item in term[1]])
    if term[0] == "record":
        return ("record", [(name, copied(inner)) for name, inner in term[1]])
    return tuple([copied(held) if isinstance(held, tuple) else held for held in term])


def node_at(term, path):
    """Return the node with a path within a term that has been checked."""
    if not isinstance(path, tuple):
        raise InvalidPath(path)
    node = term
    for step in path:
        inner = inner_terms(node)
        if not is_integer_within(step, 0, len(inner) - 1):
            raise InvalidPath(path)
        node = inner[step]
    return node


def term_at(term, path):
    """Return the term with a path within a term, as a new object."""
    check_term(term)
    return copied(node_at(term, path))


def free_uses(term):
    """Return the list of the free names of a term that has been checked, each as often as it occurs, in this order."""
    found = []
    waiting = [(term, ())]
    while waiting:
        node, bound = waiting.pop()
        if node[0] == "var":
            if node[1] not in bound:
                found.append(node[1])
            continue
        inner = inner_terms(node)
        binding = BOUND_IN.get(node[0], ())
        for step in range(len(inner) - 1, -1, -1):
            waiting.append((inner[step], bound + (node[1],) if step in binding else bound))
    return found


def free_names(term):
    """Return the ascending list of the free names of a term."""
    check_term(term)
    return sorted(set(free_uses(term)))
