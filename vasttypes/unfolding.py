"""Unfolded terms: what a term is when each use of a definition has been replaced by the definition."""

from vasttypes.errors import InvalidBound, InvalidPath
from vasttypes.graphs import settled
from vasttypes.inference import run_in
from vasttypes.terms import BOUND_IN, check_term, inner_terms, node_at
from vasttypes.wholes import is_integer, is_integer_within


class Node:
    """A node of a term: its path, its inner nodes, and the let or rec of which it is a use that is replaced, or None.

    The size tells how many nodes it becomes in the unfolded term, and the levels how deep these are. The times tell how
    often this is there, and the uses of a let or rec how often its definition is.
    """

    def __init__(self, word, path, binder):
        self.word = word
        self.path = path
        self.binder = binder
        self.inner = []
        self.size = 0
        self.levels = 0
        self.times = 0
        self.uses = 0

    def is_definition(self):
        """Tell whether the node is a let or rec."""
        return self.word == "let" or self.word == "rec"

    def source(self):
        """Return the node that comes in the place of this one, None for a node that is copied as it is."""
        if self.binder is not None:
            return self.binder.inner[0]
        return self.inner[1] if self.is_definition() else None

    def own(self):
        """Return how many nodes it is itself, apart from the others that it becomes: 0 or 1."""
        if self.binder is not None:
            return int(self.binder.word == "rec")
        return int(not self.is_definition())

    def measure(self):
        """Find the size and the levels, when those of the nodes that it becomes are known."""
        source = self.source()
        inner = self.inner if source is None else [source]
        self.size = self.own() + sum([node.size for node in inner])
        self.levels = self.own() + max([node.levels for node in inner], default=0)

    def copies(self):
        """Return how many nodes of the unfolded term come from it."""
        if self.is_definition():
            return self.uses if self.word == "rec" else 0
        return 0 if self.binder is not None else self.times


def add_node(term, path, names, nodes):
    """Add the nodes of a term to a dict by their paths, in the order in which they begin, and return the first one.

    The names have the let or rec for those whose uses are replaced, None for others.
    """
    node = Node(term[0], path, names.get(term[1]) if term[0] == "var" else None)
    nodes[path] = node
    for step, inner in enumerate(inner_terms(term)):
        known = names
        if step in BOUND_IN.get(term[0], ()):
            # Within its definition, the uses of the name of a rec stay, as those of a parameter do.
            known = {**names, term[1]: node if node.is_definition() and step == 1 else None}
        node.inner.append(add_node(inner, path + (step,), known, nodes))
    node.measure()
    return node


def spread(node, times):
    """Tell a node, and those that come in its place, that it is there so often."""
    node.times = times
    if node.binder is not None:
        node.binder.uses += times
    elif node.is_definition():
        # All uses are within the body.
        spread(node.inner[1], times)
        spread(node.inner[0], node.uses)
    else:
        for inner in node.inner:
            spread(inner, times)


def unfolded(term):
    """Return the dict of the nodes of a term by their paths, after checking the term."""
    check_term(term)
    nodes = {}
    spread(add_node(term, (), {}, nodes), 1)
    return nodes


def origin(root, k):
    """Return the path of the node from which node number k comes, and the paths of the uses by which it came there."""
    node = root
    uses = []
    while k >= node.own():
        k = k - node.own()
        source = node.source()
        if node.binder is not None:
            uses.append(node.path)
        if source is None:
            for inner in node.inner:
                if k < inner.size:
                    break
                k = k - inner.size
            source = inner
        node = source
    if node.binder is not None:
        return node.binder.path, tuple(uses) + (node.path,)
    return node.path, tuple(uses)


def is_path(value):
    """Tell whether a value can be a path."""
    return isinstance(value, tuple) and all([is_integer(step) for step in value])


def walked(region, path):
    """Return the node with a path, and how many nodes begin before it where a node is unfolded.

    Return None if it is not there: definitions come only in the place of their uses.
    """
    many = len(region.path)
    if path[:many] != region.path:
        return None
    node = region
    before = 0
    for step in path[many:]:
        if not 0 <= step < len(node.inner) or (node.is_definition() and step == 0):
            return None
        if not node.is_definition():
            before += 1 + sum([inner.size for inner in node.inner[:step]])
        node = node.inner[step]
    return node, before


def number_of(root, path, uses):
    """Return the number of the node that comes from a path by these uses, None if there is none."""
    region = root
    total = 0
    for place, use in enumerate(uses):
        found = walked(region, use)
        if found is None or found[0].binder is None:
            return None
        node, before = found
        total += before
        if node.own() == 1 and path == node.binder.path and place == len(uses) - 1:
            return total
        total += node.own()
        region = node.source()
    found = walked(region, path)
    if found is None or found[0].source() is not None:
        return None
    return total + found[1]


def check_node(root, k):
    """Raise an error unless k is the number of a node of the unfolded term."""
    if not is_integer_within(k, 0, root.size - 1):
        raise InvalidBound("k")


def unfolded_size(term):
    """Return how many nodes the unfolded term has."""
    return unfolded(term)[()].size


def unfolded_depth(term):
    """Return how deep the unfolded term is."""
    return unfolded(term)[()].levels


def unfolded_at(term, k):
    """Return the path of the node from which node number k comes, and the paths of the uses by which it came there."""
    root = unfolded(term)[()]
    check_node(root, k)
    return origin(root, k)


def unfolded_number(term, path, uses):
    """Return the number of the node for which unfolded_at returns a path and uses."""
    root = unfolded(term)[()]
    number = None
    if is_path(path) and isinstance(uses, tuple) and all([is_path(use) for use in uses]):
        number = number_of(root, path, uses)
    if number is None:
        raise InvalidPath((path, uses))
    return number


def copies(term, path):
    """Return how many nodes of the unfolded term come from the node with a path."""
    nodes = unfolded(term)
    node_at(term, path)
    return nodes[path].copies()


def unused(term):
    """Return the list of the paths of the lets and recs whose definitions are not in the unfolded term."""
    nodes = unfolded(term)
    return [path for path, node in nodes.items() if node.is_definition() and node.uses == 0]


class Replacing:
    """A type within a definition that has come to its place by uses, with what each use has for general variables.

    A node is a tuple (node, level) of a node of the web, and how many of the uses, from the first one on, still have
    to replace what is within it.
    """

    def __init__(self, course, uses):
        self.web = course.web
        self.replaced = []
        for use in uses:
            scheme, made, tails = course.instances[use]
            self.replaced.append(scheme.replacements(made, tails))

    def resolved(self, node, level):
        """Return the node for a node of the web, which is no variable that a use replaces."""
        node = self.web.leader(node)
        while level > 0 and self.web.row(node)[0] == "var":
            level = level - 1
            node = self.web.leader(self.replaced[level].get(node, node))
        return node, level

    def fields_behind(self, tail, level):
        """Return the list of tuples (name, node) for the fields that uses have for a tail, and the tail behind them."""
        fields = []
        while level > 0 and tail is not None:
            level = level - 1
            if -1 - tail in self.replaced[level]:
                more, tail = self.web.behind(-1 - self.replaced[level][-1 - tail])
                fields.extend([(name, self.resolved(node, level)) for name, node in more])
        return fields, tail

    def look(self, place):
        """Return the word, labels, inner nodes and mark of a node."""
        node, level = place
        word, labels, inner, tail = self.web.row(node)
        if word == "var":
            return word, labels, inner, node
        held = [self.resolved(child, level) for child in inner]
        if tail is None:
            return word, labels, held, None
        more, last = self.fields_behind(tail, level)
        fields = sorted(list(zip(labels, held)) + more)
        # Tails are told from variables by being below 0.
        mark = None if last is None else -1 - last
        return word, tuple([name for name, _ in fields]), [inside for _, inside in fields], mark

    def vast_of(self, node):
        """Return the Vast of a node of the web."""
        return settled(self.resolved(node, len(self.replaced)), self.look)


def unfolded_type(term, k):
    """Return the type of node number k of the unfolded term."""
    nodes = unfolded(term)
    course, _ = run_in(term, {})
    check_node(nodes[()], k)
    path, uses = origin(nodes[()], k)
    if nodes[path].word == "rec":
        path = path + (0,)
    return Replacing(course, uses).vast_of(course.types_found[path])
