"""The order of types: which are instances of which, and the least general type above several ones."""

from vasttypes.common import are_bigs
from vasttypes.errors import InvalidBound, LimitExceeded
from vasttypes.graphs import MOST_PARTS, Vast, own_part, settled

MOST_TOPS = 20


def fitting_record(labels, inner, row):
    """Return what a record with fields becomes in the row of another one, None if it cannot become it.

    This is the list of tuples (node, row) for its own fields, and the tuple of those for the further fields.
    """
    if labels == row[1]:
        return list(zip(inner, row[2])), ()
    own = dict(zip(labels, inner))
    pairs = [(own[name], child) for name, child in zip(row[1], row[2]) if name in own]
    more = [(name, child) for name, child in zip(row[1], row[2]) if name not in own]
    return (pairs, tuple(more)) if len(pairs) == len(labels) else None


def inner_pairs(shape, row, tails):
    """Return the list of tuples (node, row) for what is within a node that is no variable, and within a row.

    Return None if the node cannot become the row. The tails tell what each tail has become, with the tail behind it.
    """
    word, labels, inner, mark = shape
    if word != row[0]:
        return None
    if word != "record":
        return list(zip(inner, row[2])) if len(inner) == len(row[2]) else None
    found = fitting_record(labels, inner, row)
    if found is None:
        return None
    pairs, more = found
    if mark is None:
        return None if more or row[3] is not None else pairs
    became = (more, row[3])
    return pairs if tails.setdefault(mark, became) == became else None


def matched(root, look, rows):
    """Return what a general type becomes in the type with these rows: dicts of the rows of nodes, and of its tails.

    Return None if the type with these rows is no instance. look(node) returns the word, labels, inner nodes and mark
    of a node of the general type; each of them becomes one row, wherever it is.
    """
    nodes = {root: len(rows) - 1}
    tails = {}
    waiting = [root]
    while waiting:
        node = waiting.pop()
        shape = look(node)
        if shape[0] == "var":
            continue
        pairs = inner_pairs(shape, rows[nodes[node]], tails)
        if pairs is None:
            return None
        for child, row in pairs:
            if child not in nodes:
                nodes[child] = row
                waiting.append(child)
            elif nodes[child] != row:
                return None
    return nodes, tails


def matched_types(general, special):
    """Return the same for two types, whose nodes are the numbers of rows."""
    return matched(len(general.rows) - 1, lambda node: general.rows[node], special.rows)


def is_instance(special, general):
    """Tell whether a type is an instance of another one."""
    return matched_types(general, special) is not None


def choice(general, special):
    """Return the list of what the variables and tails of a type become in another one, None if it is no instance."""
    found = matched_types(general, special)
    if found is None:
        return None
    nodes, tails = found
    chosen = {}
    for number, (word, _, _, mark) in enumerate(general.rows):
        if word == "var":
            chosen[mark] = own_part(special, nodes[number])
    for mark, (more, tail) in tails.items():
        chosen[mark] = ([(name, own_part(special, row)) for name, row in more], tail is not None)
    return [chosen[mark] for mark in range(len(chosen))]


class Generality:
    """The least general type above several ones.

    A node is the number of a place: the tuple of the rows of the types that stand there. As each type results from
    the general one by a choice, unlike places become unlike parts.
    """

    def __init__(self, bigs):
        self.rows = [big.rows for big in bigs]
        self.numbers = {}
        self.places = []
        self.tails = {}
        self.shapes = []
        self.node(tuple([len(rows) - 1 for rows in self.rows]))
        while len(self.shapes) < len(self.places):
            self.shapes.append(self.shape(len(self.shapes)))

    def node(self, place):
        """Return the node of a place."""
        if place not in self.numbers:
            if len(self.places) == MOST_PARTS:
                raise LimitExceeded(MOST_PARTS)
            self.numbers[place] = len(self.places)
            self.places.append(place)
        return self.numbers[place]

    def shape(self, node):
        """Return the word, labels, inner nodes and mark of a node."""
        held = [rows[row] for rows, row in zip(self.rows, self.places[node])]
        word = held[0][0]
        if word == "record" and all([row[0] == word for row in held]):
            return self.record(held)
        if word == "var" or any([row[0] != word or len(row[2]) != len(held[0][2]) for row in held]):
            return "var", (), (), node
        inner = [row[2] for row in held]
        return word, (), tuple([self.node(place) for place in zip(*inner)]), None

    def record(self, held):
        """Return the shape of a node where all types have records."""
        fields = [dict(zip(row[1], row[2])) for row in held]
        labels = tuple([name for name in held[0][1] if all([name in others for others in fields])])
        own = {name: True for name in labels}
        behind = []
        for row in held:
            behind.append((tuple([(name, child) for name, child in zip(row[1], row[2]) if name not in own]), row[3]))
        tail = None
        if any([more or mark is not None for more, mark in behind]):
            # Tails are told from variables by being below 0.
            tail = self.tails.setdefault((labels, tuple(behind)), -1 - len(self.tails))
        inner = [self.node(tuple([others[name] for others in fields])) for name in labels]
        return "record", labels, tuple(inner), tail

    def vast(self):
        """Return the Vast of the type."""
        return settled(0, lambda node: self.shapes[node])


def common_general(first, second):
    """Return the least general type of which both types are instances."""
    return Generality([first, second]).vast()


def common_general_of(bigs):
    """Return the least general type of which all types are instances."""
    if not are_bigs(bigs):
        raise InvalidBound("bigs")
    return Generality(bigs).vast()


def order(first, second):
    """Return how two types are ordered: "same", "above", "below" or "apart"."""
    if first == second:
        return "same"
    if is_instance(second, first):
        return "above"
    return "below" if is_instance(first, second) else "apart"


def is_below_another(big, bigs):
    """Tell whether a type is below one of several types."""
    for other in bigs:
        # Types that are instances of one another are equal.
        if big != other and is_instance(big, other):
            return True
    return False


def tops(bigs):
    """Return the ascending list of the numbers of the types that are not below another one."""
    if not isinstance(bigs, (list, tuple)) or len(bigs) > MOST_TOPS:
        raise InvalidBound("bigs")
    if not all([isinstance(big, Vast) for big in bigs]):
        raise InvalidBound("bigs")
    return [number for number, big in enumerate(bigs) if not is_below_another(big, bigs)]
