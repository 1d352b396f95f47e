"""Small types as trees: what they are, and what can be put in the place of their variables and tails."""

from vasttypes.errors import InvalidBound, InvalidTree, LimitExceeded
from vasttypes.terms import are_fields, are_items
from vasttypes.wholes import is_integer, is_integer_within

MOST_NODES = 1000
MOST_DEPTH = 100
MOST_FIELDS = 400
GREATEST_MARK = 999


def is_mark(value):
    """Tell whether a value is a mark, the number of a variable or tail."""
    return is_integer_within(value, 0, GREATEST_MARK)


def inner_of_var(node):
    """Return the trees within a variable, None if its form is wrong; the next functions do so for the other kinds."""
    return () if len(node) == 2 and is_mark(node[1]) else None


def inner_of_constant(node):
    """Return the trees within an int or bool."""
    return () if len(node) == 1 else None


def inner_of_fun(node):
    """Return the trees within a fun."""
    return node[1:] if len(node) == 3 else None


def inner_of_tuple(node):
    """Return the trees within a tuple."""
    return node[1] if len(node) == 2 and are_items(node[1]) else None


def inner_of_record(node):
    """Return the trees within a record."""
    if len(node) != 3 or not are_fields(node[1], MOST_FIELDS):
        return None
    if node[2] is not None and not is_mark(node[2]):
        return None
    return [tree for _, tree in node[1]]


INNER_OF = {
    "var": inner_of_var,
    "int": inner_of_constant,
    "bool": inner_of_constant,
    "fun": inner_of_fun,
    "tuple": inner_of_tuple,
    "record": inner_of_record,
}


def inner_trees(value):
    """Return the trees directly within a node in their order, whatever they are; None for what is of no kind."""
    if not isinstance(value, tuple) or not value or not isinstance(value[0], str) or value[0] not in INNER_OF:
        return None
    inner_of = INNER_OF[value[0]]
    return inner_of(value)


def labels_of(node):
    """Return the list of the names of the fields of a node, [] for what is no record."""
    return [name for name, _ in node[1]] if node[0] == "record" else []


def fits_marks(node, marks):
    """Tell whether the mark of a node fits to those that occurred, and keep it among them."""
    if node[0] == "var":
        return marks.setdefault(node[1], None) is None
    if node[0] == "record" and node[2] is not None:
        labels = labels_of(node)
        return marks.setdefault(node[2], labels) == labels
    return True


class Survey:
    """What a tree has: how many nodes, how many levels, since it is so deep, and its marks.

    The marks are a dict: None for those of variables, the names of its records for a tail. The counts tell how often
    each mark occurs, and the depths how many nodes are around it where it is deepest.
    """

    def __init__(self):
        self.nodes = 0
        self.levels = 0
        self.marks = {}
        self.counts = {}
        self.depths = {}

    def takes_mark(self, node):
        """Note the mark of a node, if it has one, and tell whether it fits to those that were noted."""
        mark = node[-1]
        labels = None
        if node[0] == "record":
            if mark is None:
                return True
            labels = labels_of(node)
        self.counts[mark] = self.counts.get(mark, 0) + 1
        # The nodes come depth by depth.
        self.depths[mark] = self.levels
        return self.marks.setdefault(mark, labels) == labels

    def take(self, level):
        """Take the nodes of another depth; return those below them, None if one of the nodes is of no kind."""
        self.nodes += len(level)
        if self.nodes > MOST_NODES or self.levels == MOST_DEPTH:
            return None
        below = []
        for node in level:
            inner = inner_trees(node)
            if inner is None:
                return None
            below.extend(inner)
            if (node[0] == "var" or node[0] == "record") and not self.takes_mark(node):
                return None
        self.levels += 1
        return below


def survey_if_tree(value):
    """Return the Survey of a tree, None for a value that is no tree.

    The nodes are looked at depth by depth, since this needs no paths: what is wrong with a value that is no tree is
    looked for by itself.
    """
    survey = Survey()
    level = (value,)
    while level:
        level = survey.take(level)
    return survey if level is not None else None


def check_nodes(value):
    """Raise the error of the first node of a value that keeps it from being a tree.

    A list of what waits takes the place of recursion, since the value may be nested deeper than Python's calls can be.
    """
    marks = {}
    count = 0
    waiting = [((), value)]
    while waiting:
        path, node = waiting.pop()
        if count == MOST_NODES:
            raise LimitExceeded(MOST_NODES)
        if len(path) == MOST_DEPTH:
            raise LimitExceeded(MOST_DEPTH)
        inner = inner_trees(node)
        if inner is None or not fits_marks(node, marks):
            raise InvalidTree(path)
        count += 1
        for step in range(len(inner) - 1, -1, -1):
            waiting.append((path + (step,), inner[step]))


def survey_of(tree):
    """Return the Survey of a tree."""
    survey = survey_if_tree(tree)
    if survey is None:
        check_nodes(tree)
    return survey


def check_tree(value):
    """Raise the error of the first node of a value that keeps it from being a tree."""
    survey_of(value)


def numbered_anew(tree, numbers):
    """Return a tree that has been checked with its marks numbered, given the numbers of those that occurred."""
    if tree[0] == "var":
        return ("var", numbers.setdefault(tree[1], len(numbers)))
    if tree[0] == "tuple":
        return ("tuple", [numbered_anew(item, numbers) for item in tree[1]])
    if tree[0] == "record":
        fields = [(name, numbered_anew(inner, numbers)) for name, inner in tree[1]]
        # The tail stands behind the fields in the text.
        return ("record", fields, None if tree[2] is None else numbers.setdefault(tree[2], len(numbers)))
    return tuple([numbered_anew(held, numbers) if isinstance(held, tuple) else held for held in tree])


def renumbered(tree):
    """Return a tree with its variables and tails numbered from 0 in the order in which they occur in its text."""
    check_tree(tree)
    return numbered_anew(tree, {})


def survey_of_entry(entry, labels):
    """Return the Survey of what stands in a table for a variable (labels is None), or for the tail of such records.

    Return None for a value that cannot stand there. What stands for a tail is taken as a record with its fields.
    """
    if labels is None:
        return survey_if_tree(entry)
    if not isinstance(entry, tuple) or len(entry) != 2:
        return None
    survey = survey_if_tree(("record", *entry))
    if survey is not None:
        own = {name: True for name in labels}
        if any([name in own for name, _ in entry[0]]):
            return None
    return survey


def surveys_of_table(table, marks):
    """Return the dict of the Surveys of the entries of a table for some of these marks, None for what is no table."""
    if not isinstance(table, dict):
        return None
    found = {}
    for mark, entry in table.items():
        if not is_integer(mark) or mark not in marks:
            return None
        found[mark] = survey_of_entry(entry, marks[mark])
        if found[mark] is None:
            return None
    return found


def are_small(survey, entries):
    """Tell whether a tree with entries in it has few enough nodes and is not too deep, given their Surveys."""
    nodes = survey.nodes
    for mark, entry in entries.items():
        # The first node of an entry takes the place of a variable, or of a record with the tail.
        nodes += survey.counts[mark] * (entry.nodes - 1)
        if survey.depths[mark] + entry.levels > MOST_DEPTH:
            return False
    return nodes <= MOST_NODES


def merged_labels(labels, entry):
    """Return the names of the records with a tail for which an entry stands."""
    return sorted(labels + [name for name, _ in entry[0]])


def have_few_labels(survey, table):
    """Tell whether no record gets too many fields by a table."""
    for mark, entry in table.items():
        labels = survey.marks[mark]
        if labels is not None and len(labels) + len(entry[0]) > MOST_FIELDS:
            return False
    return True


def marks_by_entry(mark, labels, table, entries):
    """Return the list of tuples (mark, labels) that come into a tree by the entry for a mark, None if some clash."""
    found = list(entries[mark].marks.items())
    if labels is None:
        return found
    tail = table[mark][1]
    if tail is None:
        return found
    if entries[mark].counts[tail] > 1:
        # The records within the further fields have other names than those with all fields.
        return None
    return [pair for pair in found if pair[0] != tail] + [(tail, merged_labels(labels, table[mark]))]


def do_marks_fit(survey, table, entries):
    """Tell whether the marks of a tree with the entries of a table in it fit to one another."""
    marks = {mark: labels for mark, labels in survey.marks.items() if mark not in table}
    for mark in table:
        more = marks_by_entry(mark, survey.marks[mark], table, entries)
        if more is None:
            return False
        for other, labels in more:
            if marks.setdefault(other, labels) != labels:
                return False
    return True


def with_entries(tree, table):
    """Return a tree with the very entries of a table in it."""
    if tree[0] == "var":
        return table.get(tree[1], tree)
    if tree[0] == "tuple":
        return ("tuple", [with_entries(item, table) for item in tree[1]])
    if tree[0] == "record":
        fields = [(name, with_entries(inner, table)) for name, inner in tree[1]]
        more, tail = table.get(tree[2], ([], tree[2]))
        return ("record", sorted(fields + more, key=lambda field: field[0]), tail)
    return tuple([with_entries(held, table) if isinstance(held, tuple) else held for held in tree])


def copied_tree(tree):
    """Return a tree equal to a tree that has been checked, with new tuples and lists throughout."""
    return filled(tree, {})


def filled(tree, table):
    """Return a tree with copies of the entries of a table in it, with new tuples and lists throughout."""
    word = tree[0]
    if word == "var":
        return copied_tree(table[tree[1]]) if tree[1] in table else (word, tree[1])
    if word == "tuple":
        return (word, [filled(item, table) for item in tree[1]])
    if word == "record":
        return filled_record(tree, table)
    return (word, filled(tree[1], table), filled(tree[2], table)) if word == "fun" else (word,)


def filled_record(tree, table):
    """Do the same for a record."""
    fields = [(name, filled(inner, table)) for name, inner in tree[1]]
    if tree[2] not in table:
        return ("record", fields, tree[2])
    more, tail = table[tree[2]]
    fields.extend([(name, copied_tree(inner)) for name, inner in more])
    return ("record", sorted(fields, key=lambda field: field[0]), tail)


def substituted(tree, table):
    """Return a tree with the entries of a table in the place of variables and tails, all at once."""
    survey = survey_of(tree)
    entries = surveys_of_table(table, survey.marks)
    if entries is None:
        raise InvalidBound("table")
    is_right = are_small(survey, entries) and have_few_labels(survey, table) and do_marks_fit(survey, table, entries)
    if not is_right:
        # An entry may stand at so many places that only a result that has been checked is copied.
        check_nodes(with_entries(tree, table))
    return filled(tree, table)
