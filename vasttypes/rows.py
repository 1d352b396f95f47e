"""Rows: the nodes of graphs of types.

A row is a tuple (word, labels, inner, mark): the first word of the tree, the names of the fields
of a record, the nodes of the types directly within it, and what tells a variable or tail from
others, None if there is none. In the list of the rows of a type the nodes are the numbers of rows,
each row stands once, behind those within it, in the order in which the parts first end in the text,
and the marks are numbered in the order of the text. So two types are equal if their rows are.
"""


class Weaver:
    """The rows of a type that are made of the nodes of a graph, a node for each, and the marks in their order."""

    def __init__(self):
        self.rows = []
        self.nodes = []
        self.marks = {}


def woven(root, look):
    """Return a Weaver with the rows of the type of a node, None if the node is within itself.

    look(node) returns the word, labels, inner nodes and mark of a node.
    """
    weaver = Weaver()
    rows = weaver.rows
    marks = weaver.marks
    numbers = {}
    done = {}
    entered = {}
    waiting = [root]
    while waiting:
        node = waiting[-1]
        if node in done:
            waiting.pop()
            continue
        shape = entered[node] if node in entered else look(node)
        word, labels, inner, mark = shape
        missing = [child for child in inner if child not in done]
        if missing and node in entered:
            return None
        if missing:
            # What is above it in the list is finished before the node comes again, unless the node is within it.
            entered[node] = shape
            waiting.extend(missing[::-1])
            continue
        waiting.pop()
        if mark is not None:
            mark = marks.setdefault(mark, len(marks))
        row = (word, labels, tuple([done[child] for child in inner]), mark)
        done[node] = numbers.setdefault(row, len(rows))
        if done[node] == len(rows):
            rows.append(row)
            weaver.nodes.append(node)
    return weaver


def rows_within(inner, number):
    """Return the dict of a row of a type and those within it, in the order in which they first end in its text.

    The values are their numbers in this order; inner tells for each row which ones are directly within it.
    """
    done = {}
    waiting = [number]
    while waiting:
        top = waiting[-1]
        missing = [child for child in inner[top] if child not in done]
        if missing:
            waiting.extend(missing[::-1])
        else:
            waiting.pop()
            done.setdefault(top, len(done))
    return done


def picked(rows, inner, number):
    """Return the tuple of the rows of the type that one of the rows of a type has, given what is within each."""
    places = rows_within(inner, number)
    marks = {None: None}
    found = []
    # As long as all rows keep their numbers and marks, they are the very same.
    is_same = True
    for old, place in places.items():
        word, labels, children, mark = rows[old]
        # The entry for no mark is there ahead of the others.
        own = marks.setdefault(mark, len(marks) - 1)
        is_same = is_same and place == old and own == mark
        if is_same:
            found.append(rows[old])
        else:
            found.append((word, labels, tuple([places[child] for child in children]), own))
    return tuple(found)
