"""Types as graphs."""

from vasttypes.errors import InvalidBound, InvalidPath, LimitExceeded
from vasttypes.rows import picked, woven
from vasttypes.terms import are_ascending, are_names
from vasttypes.trees import MOST_DEPTH, MOST_NODES, check_tree, inner_trees, labels_of
from vasttypes.wholes import is_integer_within

MOST_PARTS = 1000
MOST_TOWERS = 400

# The least and greatest number of types directly within those with a word.
INNER_TOTALS = {
    "var": (0, 0),
    "int": (0, 0),
    "bool": (0, 0),
    "fun": (2, 2),
    "tuple": (2, 6),
    "record": (0, 400),
}


class Vast:
    """A type; its rows are those of vasttypes.rows, the last one that of the whole."""

    def __init__(self, rows):
        self.rows = rows
        # What other modules have worked out about the rows, by names of their own.
        self.notes = {}

    def __eq__(self, other):
        return isinstance(other, Vast) and self.rows == other.rows

    def node_total(self):
        """Return how many unlike parts the type has."""
        return len(self.rows)

    def tree_size(self):
        """Return how many nodes the tree of the type would have."""
        sizes = []
        for _, _, inner, _ in self.rows:
            sizes.append(1 + sum([sizes[child] for child in inner]))
        return sizes[-1]

    def height(self):
        """Return how deep the tree of the type would be."""
        heights = []
        for _, _, inner, _ in self.rows:
            heights.append(1 + max([heights[child] for child in inner], default=0))
        return heights[-1]

    def tree(self):
        """Return the tree of the type, unless it is too large."""
        if self.tree_size() > MOST_NODES:
            raise LimitExceeded(MOST_NODES)
        if self.height() > MOST_DEPTH:
            raise LimitExceeded(MOST_DEPTH)
        return tree_of(self.rows, len(self.rows) - 1)

    def variables(self):
        """Return the list of tuples (word, count) for the variables and tails, in the order of the text."""
        found = {}
        for (word, _, _, mark), uses in zip(self.rows, uses_of(self.rows)):
            if mark is not None:
                _, before = found.get(mark, ("", 0))
                found[mark] = ("var" if word == "var" else "tail", before + uses)
        return [found[mark] for mark in range(len(found))]

    def kind(self):
        """Return the first word of the tree of the type."""
        return self.rows[-1][0]

    def labels(self):
        """Return the list of the names of the fields, [] for what is no record."""
        return list(self.rows[-1][1])

    def parts(self):
        """Return the list of the types directly within the type, each as a type of its own."""
        return [own_part(self, child) for child in self.rows[-1][2]]

    def part(self, path):
        """Return the part with a path as a type of its own."""
        return own_part(self, row_at(self, path))


def settled(root, look):
    """Return the Vast of a node of a graph (see vasttypes.rows), None if the node is within itself."""
    weaver = woven(root, look)
    return None if weaver is None else limited(weaver.rows)


def limited(rows):
    """Return the Vast with these rows, unless they are too many."""
    if len(rows) > MOST_PARTS:
        raise LimitExceeded(MOST_PARTS)
    return Vast(tuple(rows))


def part_of(rows, number):
    """Return the Vast of the row with a number, among rows in any order of which some may be equal."""
    return settled(number, lambda node: rows[node])


def inner_rows(big):
    """Return the list that tells for each row which ones are directly within it, each once; it is made once."""
    if "inner" not in big.notes:
        big.notes["inner"] = [tuple({child: True for child in row[2]}) for row in big.rows]
    return big.notes["inner"]


def own_part(big, number):
    """Return the Vast of the row of a type with a number."""
    return Vast(picked(big.rows, inner_rows(big), number))


def row_at(big, path):
    """Return the number of the row of the part with a path."""
    if not isinstance(path, tuple):
        raise InvalidPath(path)
    number = len(big.rows) - 1
    for step in path:
        inner = big.rows[number][2]
        if not is_integer_within(step, 0, len(inner) - 1):
            raise InvalidPath(path)
        number = inner[step]
    return number


class Follower:
    """What follows paths of a type one after the other; it need not follow again what a path shares with the last one.

    The trail is the list of the numbers of the rows along the last path, from the whole on.
    """

    def __init__(self, big):
        self.rows = big.rows
        self.path = ()
        self.trail = [len(big.rows) - 1]

    def row_at(self, path):
        """Return the number of the row of the part with a path."""
        # True is equal to 1, but no step.
        if not isinstance(path, tuple) or [step for step in path if type(step) != int]:
            raise InvalidPath(path)
        # Mostly at most the last step of one of the paths is another one; otherwise at least half of what they share
        # is found.
        last = self.path
        many = len(path) if len(path) < len(last) else len(last)
        if many > 0:
            many = many - 1
        while path[:many] != last[:many]:
            many = many // 2
        trail = self.trail[:many + 1]
        for step in path[many:]:
            inner = self.rows[trail[-1]][2]
            if not 0 <= step < len(inner):
                raise InvalidPath(path)
            trail.append(inner[step])
        self.path = path
        self.trail = trail
        return trail[-1]


def uses_of(rows):
    """Return the list that tells for each row to how many nodes of the tree it belongs."""
    uses = [0] * len(rows)
    uses[-1] = 1
    for number in range(len(rows) - 1, -1, -1):
        for child in rows[number][2]:
            uses[child] += uses[number]
    return uses


def tree_of(rows, number):
    """Return the tree of the row with a number."""
    word, labels, inner, mark = rows[number]
    trees = [tree_of(rows, child) for child in inner]
    if word == "var":
        return ("var", mark)
    if word == "tuple":
        return ("tuple", trees)
    if word == "record":
        return ("record", list(zip(labels, trees)), mark)
    return (word, *trees)


def add_rows(tree, rows):
    """Add the rows of a tree to a list, one for each of its nodes, and return the number of its own row."""
    inner = [add_rows(child, rows) for child in inner_trees(tree)]
    mark = None
    if tree[0] == "var" or tree[0] == "record":
        mark = tree[-1]
    rows.append((tree[0], tuple(labels_of(tree)), tuple(inner), mark))
    return len(rows) - 1


def vast(tree):
    """Return the Vast of a tree."""
    check_tree(tree)
    rows = []
    return part_of(rows, add_rows(tree, rows))


def are_parts(value, word):
    """Tell whether a value is a list of a right number of Vasts for a word."""
    least, most = INNER_TOTALS[word]
    if not isinstance(value, list) or not least <= len(value) <= most:
        return False
    return all([isinstance(part, Vast) for part in value])


def are_labels(value, many):
    """Tell whether a value is a list or tuple of so many ascending names."""
    if not isinstance(value, (list, tuple)) or len(value) != many:
        return False
    return are_names(value) and are_ascending(list(value))


def made(word, parts, labels=(), is_open=False):
    """Return the Vast of a type with a word and parts, whose variables are all unlike."""
    if not isinstance(word, str) or word not in INNER_TOTALS:
        raise InvalidBound("word")
    if not are_parts(parts, word):
        raise InvalidBound("parts")
    if not are_labels(labels, len(parts) if word == "record" else 0):
        raise InvalidBound("labels")
    if not isinstance(is_open, bool) or (is_open and word != "record"):
        raise InvalidBound("is_open")
    rows = []
    inner = [add_apart(part.rows, rows) for part in parts]
    rows.append((word, tuple(labels), tuple(inner), len(rows) if is_open or word == "var" else None))
    return part_of(rows, len(rows) - 1)


def add_apart(more, rows):
    """Add the rows of a type to a list, with marks that are not there yet, and return the number of the last one."""
    first = len(rows)
    for word, labels, inner, mark in more:
        # As there are at most as many marks as rows, they stay below those of what is added later.
        apart = None if mark is None else first + mark
        rows.append((word, labels, tuple([first + child for child in inner]), apart))
    return len(rows) - 1


def towers(n):
    """Return the Vast of the tuple of two equal types n times around a variable."""
    if not is_integer_within(n, 0, MOST_TOWERS):
        raise InvalidBound("n")
    rows = [("var", (), (), 0)]
    for number in range(n):
        rows.append(("tuple", (), (number, number), None))
    return Vast(tuple(rows))
