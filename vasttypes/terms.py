"""Terms: what they are, their nodes and paths, and their free names."""

from vasttypes.errors import InvalidPath, InvalidTerm, LimitExceeded
from vasttypes.wholes import is_integer_within

MOST_NODES = 400
MOST_DEPTH = 100
MOST_LETTERS = 8
LEAST_ITEMS = 2
MOST_ITEMS = 6
MOST_FIELDS = 12
GREATEST = 10 ** 30

# What stands behind the first word of a node, slot by slot.
SHAPES = {
    "var": ("name",),
    "int": ("constant",),
    "bool": ("truth",),
    "fun": ("name", "term"),
    "app": ("term", "term"),
    "let": ("name", "term", "term"),
    "rec": ("name", "function", "term"),
    "if": ("term", "term", "term"),
    "tuple": ("items",),
    "part": ("number", "size", "term"),
    "record": ("fields",),
    "field": ("term", "name"),
    "with": ("term", "name", "term"),
}

# The numbers of the terms within a node in which the name of the node is bound.
BOUND_IN = {"fun": (0,), "let": (1,), "rec": (0, 1)}


def is_name(value):
    """Tell whether a value is a name."""
    if not isinstance(value, str) or not 1 <= len(value) <= MOST_LETTERS:
        return False
    return all(["a" <= sign <= "z" for sign in value])


def is_constant(value):
    """Tell whether a value can stand in an int."""
    return is_integer_within(value, -GREATEST, GREATEST)


def is_truth(value):
    """Tell whether a value is True or False."""
    return isinstance(value, bool)


def is_number_of_item(value):
    """Tell whether a value is the number of an item in a tuple of the greatest size."""
    return is_integer_within(value, 0, MOST_ITEMS - 1)


def is_size(value):
    """Tell whether a value is the size of a tuple."""
    return is_integer_within(value, LEAST_ITEMS, MOST_ITEMS)


def is_anything(value):
    """Return True, since a term within a node is looked at as a node of its own."""
    return True


def begins_as_function(value):
    """Tell whether a value is a tuple that begins with "fun", whatever else it has."""
    return isinstance(value, tuple) and len(value) > 0 and value[0] == "fun"


def is_list_of_items(value):
    """Tell whether a value is a list with as many items as a tuple can have."""
    return isinstance(value, list) and LEAST_ITEMS <= len(value) <= MOST_ITEMS


def is_field(value):
    """Tell whether a value is a tuple of a name and something else."""
    return isinstance(value, tuple) and len(value) == 2 and is_name(value[0])


def is_list_of_fields(value):
    """Tell whether a value is a list of fields as a record can have them."""
    if not isinstance(value, list) or len(value) > MOST_FIELDS:
        return False
    if not all([is_field(field) for field in value]):
        return False
    names = [field[0] for field in value]
    return names == sorted(set(names))


FITS = {
    "name": is_name,
    "constant": is_constant,
    "truth": is_truth,
    "number": is_number_of_item,
    "size": is_size,
    "term": is_anything,
    "function": begins_as_function,
    "items": is_list_of_items,
    "fields": is_list_of_fields,
}


def fits_slot(slot, held):
    """Tell whether a value can stand in a slot."""
    fits = FITS[slot]
    return fits(held)


def is_of_a_kind(value):
    """Tell whether a value is a tuple of a kind of term, apart from the terms within it."""
    if not isinstance(value, tuple) or not value or not isinstance(value[0], str):
        return False
    if value[0] not in SHAPES or len(value) != len(SHAPES[value[0]]) + 1:
        return False
    if not all([fits_slot(slot, held) for slot, held in slots_of(value)]):
        return False
    return value[0] != "part" or value[1] < value[2]


def slots_of(node):
    """Return the list of the slots of a node, each with what stands in it."""
    return list(zip(SHAPES[node[0]], node[1:]))


def inner_terms(node):
    """Return the list of the terms directly within a node."""
    found = []
    for slot, held in slots_of(node):
        if slot == "term" or slot == "function":
            found.append(held)
        elif slot == "items":
            found.extend(held)
        elif slot == "fields":
            found.extend([field[1] for field in held])
    return found


def with_inner_terms(node, inner):
    """Return a new node like a node, with other terms directly within it."""
    built = [node[0]]
    used = 0
    for slot, held in slots_of(node):
        if slot == "term" or slot == "function":
            built.append(inner[used])
            used += 1
        elif slot == "items":
            built.append(list(inner))
        elif slot == "fields":
            built.append([(field[0], term) for field, term in zip(held, inner)])
        else:
            built.append(held)
    return tuple(built)


def check_node(value, path, number):
    """Raise the error of the node with this path and number, if there is one."""
    if number == MOST_NODES:
        raise LimitExceeded(MOST_NODES)
    if len(path) == MOST_DEPTH:
        raise LimitExceeded(MOST_DEPTH)
    if not is_of_a_kind(value):
        raise InvalidTerm(path)


def checked_nodes(value):
    """Return the list of tuples (path, node) of a term, in the order in which the nodes begin.

    Raise the error of the first node that has one. A list of what waits takes the place
    of recursion, since the value may be nested deeper than Python's calls can be.
    """
    found = []
    waiting = [((), value)]
    while waiting:
        path, node = waiting.pop()
        check_node(node, path, len(found))
        found.append((path, node))
        for step, inner in reversed(list(enumerate(inner_terms(node)))):
            waiting.append((path + (step,), inner))
    return found


def check_term(value):
    """Raise the error of the first node of a value that keeps it from being a term."""
    checked_nodes(value)


def node_count(term):
    """Return how many nodes a term has."""
    return len(checked_nodes(term))


def depth(term):
    """Return how deep a term is."""
    return 1 + max([len(path) for path, _ in checked_nodes(term)])


def paths(term):
    """Return the list of the paths of all nodes of a term, in the order in which these begin."""
    return [path for path, _ in checked_nodes(term)]


def copied(term):
    """Return a term equal to a term that shares no list with it."""
    copies = []
    for _, node in reversed(checked_nodes(term)):
        # The nodes come from the last one on, so the copy of the first inner term is on top.
        inner = [copies.pop() for _ in inner_terms(node)]
        copies.append(with_inner_terms(node, inner))
    return copies[0]


def node_at(term, path):
    """Return the node with a path within a term that has been checked."""
    if not isinstance(path, tuple):
        raise InvalidPath(path)
    node = term
    for step in path:
        inner = inner_terms(node)
        if not is_integer_within(step, 0, len(inner) - 1):
            raise InvalidPath(path)
        node = inner[step]
    return node


def term_at(term, path):
    """Return the term with a path within a term, as a new object."""
    check_term(term)
    return copied(node_at(term, path))


def bound_within(node, step, bound):
    """Return the names that are bound in inner term number step of a node, given those around."""
    if step in BOUND_IN.get(node[0], ()):
        return bound + (node[1],)
    return bound


def free_names(term):
    """Return the ascending list of the free names of a term."""
    check_term(term)
    found = []
    waiting = [(term, ())]
    while waiting:
        node, bound = waiting.pop()
        if node[0] == "var" and node[1] not in bound:
            found.append(node[1])
        for step, inner in enumerate(inner_terms(node)):
            waiting.append((inner, bound_within(node, step, bound)))
    return sorted(set(found))
