"""Webs: graphs of types in which nodes can be made equal."""

from vasttypes.graphs import settled

VARIABLE = ("var", (), (), None)


def shifted(rows, first, first_tail):
    """Return the rows of a type as those of nodes with the numbers from first on, and of tails from first_tail on."""
    shapes = []
    tails = {}
    for word, labels, inner, mark in rows:
        tail = None
        if word == "record" and mark is not None:
            tail = tails.setdefault(mark, first_tail + len(tails))
        # In a web without other nodes, the numbers of rows are those of nodes.
        nodes = tuple([first + child for child in inner]) if first > 0 else inner
        shapes.append((word, labels, nodes, tail))
    return shapes


class Web:
    """Types of which some have been made equal, so that their variables and tails have become something else.

    A node has a row (see vasttypes.rows) in which the mark of a record is its tail. Nodes that have
    been made equal lead to one of them, which has the row of all. A tail that has become something has a
    tuple of the list of tuples (name, node) for the further fields, and the tail behind them, None if there
    is none.
    """

    def __init__(self):
        self.shapes = []
        self.leads = []
        self.tails = []
        # The nodes to which others have been made equal since the web was known to have no circle.
        self.touched = []

    def node(self, row):
        """Return a new node with a row."""
        self.shapes.append(row)
        self.leads.append(len(self.leads))
        return len(self.leads) - 1

    def forked(self):
        """Return a web with the same nodes and tails, which is changed apart from this one."""
        web = Web()
        web.shapes = list(self.shapes)
        web.leads = list(self.leads)
        web.tails = list(self.tails)
        web.touched = list(self.touched)
        return web

    def variable(self):
        """Return a new variable."""
        return self.node(VARIABLE)

    def function(self, taken, result):
        """Return a new node for the functions from one node to another one."""
        return self.node(("fun", (), (taken, result), None))

    def tail(self):
        """Return a new tail."""
        self.tails.append(None)
        return len(self.tails) - 1

    def leader(self, node):
        """Return the node to which a node leads in the end."""
        leads = self.leads
        while leads[node] != node:
            leads[node] = leads[leads[node]]
            node = leads[node]
        return node

    def behind(self, tail):
        """Return the list of the fields that a tail has become, and the tail behind them, None if there is none."""
        passed = []
        while tail is not None and self.tails[tail] is not None:
            passed.append(tail)
            tail = self.tails[tail][1]
        fields = []
        for earlier in passed[::-1]:
            # The way is shorter next time.
            fields = self.tails[earlier][0] + fields
            self.tails[earlier] = (fields, tail)
        return fields, tail

    def row(self, node):
        """Return the row of a node, for a record with all fields that it has by now."""
        node = self.leader(node)
        word, labels, inner, tail = self.shapes[node]
        if tail is not None and self.tails[tail] is not None:
            more, last = self.behind(tail)
            fields = sorted(list(zip(labels, inner)) + more)
            self.shapes[node] = (word, tuple([name for name, _ in fields]), tuple([held for _, held in fields]), last)
        return self.shapes[node]

    def look(self, node):
        """Return the row of a node that leads to itself, with such nodes within it, and with a mark for variables."""
        shape = self.shapes[node]
        if shape[3] is not None:
            shape = self.row(node)
        word, labels, inner, tail = shape
        if word == "var":
            return word, labels, inner, node
        leads = self.leads
        held = [child if leads[child] == child else self.leader(child) for child in inner]
        # Tails are told from variables by being below 0.
        return word, labels, held, None if tail is None else -1 - tail

    def planted(self, rows):
        """Return the list of new nodes for the rows of a type."""
        shapes = shifted(rows, len(self.shapes), len(self.tails))
        self.add_tails(max([shape[3] for shape in shapes if shape[3] is not None], default=-1) + 1)
        return self.add_shapes(shapes)

    def add_tails(self, many):
        """Add new tails, so that there are at least so many."""
        self.tails.extend([None] * (many - len(self.tails)))

    def add_shapes(self, shapes):
        """Return the list of new nodes for rows that have the numbers of these nodes."""
        nodes = list(range(len(self.shapes), len(self.shapes) + len(shapes)))
        self.shapes.extend(shapes)
        self.leads.extend(nodes)
        return nodes

    def use(self, function, taken):
        """Use a function with a node, and return the node of the result, None if this is impossible."""
        result = self.variable()
        return result if self.joins(function, self.function(taken, result)) else None

    def joins(self, first, second):
        """Make two nodes equal, and tell whether this is possible, apart from circles.

        If it is not, they may have become equal in part, so that circles are lost or made: the web is spoilt.
        """
        pairs = [(first, second)]
        while pairs:
            one, other = pairs.pop()
            one = self.leader(one)
            other = self.leader(other)
            if one == other:
                continue
            if self.shapes[one][0] == "var":
                one, other = other, one
            if self.shapes[other][0] != "var" and not self.fit(one, other, pairs):
                return False
            self.leads[other] = one
            self.touched.append(one)
        return True

    def fit(self, one, other, pairs):
        """Tell whether two nodes that are no variables can be equal, and add the pairs that must then be equal."""
        row = self.row(one)
        match = self.row(other)
        if row[0] == "record" and match[0] == "record":
            return self.fit_records(row, match, pairs)
        if row[0] != match[0] or len(row[2]) != len(match[2]):
            return False
        pairs.extend(list(zip(row[2], match[2])))
        return True

    def fit_records(self, row, match, pairs):
        """Do the same for the rows of two records."""
        fields = dict(zip(row[1], row[2]))
        others = dict(zip(match[1], match[2]))
        pairs.extend([(held, others[name]) for name, held in fields.items() if name in others])
        left = [(name, held) for name, held in fields.items() if name not in others]
        more = [(name, held) for name, held in others.items() if name not in fields]
        return self.fit_tails(row[3], more, match[3], left)

    def fit_tails(self, tail, more, other, left):
        """Give further fields to two tails (None for no tail), and make them equal behind these, if possible."""
        if tail == other:
            return not more and not left
        if (tail is None and more) or (other is None and left):
            return False
        if tail is None:
            self.tails[other] = (left, None)
        elif other is None:
            self.tails[tail] = (more, None)
        elif not more:
            self.tails[other] = (left, tail)
        elif not left:
            self.tails[tail] = (more, other)
        else:
            last = self.tail()
            self.tails[tail] = (more, last)
            self.tails[other] = (left, last)
        return True

    def has_circle(self):
        """Tell whether a node is within itself, in a web that is not spoilt."""
        leader = self.leader
        waiting = list(self.touched)
        done = {}
        entered = {}
        while waiting:
            node = leader(waiting[-1])
            if node in done:
                waiting.pop()
                continue
            missing = [child for child in self.row(node)[2] if leader(child) not in done]
            if not missing:
                done[node] = True
                waiting.pop()
            elif node in entered:
                return True
            else:
                # As in woven of vasttypes.rows: a node comes again behind all that is within it.
                entered[node] = True
                waiting.extend(missing)
        self.touched = []
        return False

    def marks_within(self, nodes):
        """Return the dict of the marks (see look) of the variables and tails within nodes."""
        marks = {}
        seen = {}
        waiting = [self.leader(node) for node in nodes]
        while waiting:
            node = waiting.pop()
            if node in seen:
                continue
            seen[node] = True
            _, _, inner, mark = self.look(node)
            if mark is not None:
                marks[mark] = True
            waiting.extend([child for child in inner if child not in seen])
        return marks

    def vast_of(self, node):
        """Return the Vast of a node, None if a node is within itself there."""
        return settled(self.leader(node), self.look)
