"""Shared texts: the texts of types in lines, in which parts stand as the numbers of earlier lines."""

from vasttypes.errors import InvalidLines, InvalidText
from vasttypes.graphs import part_of, row_at, uses_of
from vasttypes.signs import pieces_of
from vasttypes.terms import MOST_ITEMS
from vasttypes.trees import MOST_FIELDS
from vasttypes.typereaders import BEGINNINGS, TypeReader

MOST_LINES = 1000

# The kinds of types that are not written twice.
WRITTEN_ONCE = ("fun", "tuple", "record")


def own_lines(rows):
    """Return the dict of the rows that have lines of their own, with the numbers of these."""
    places = [0] * len(rows)
    for _, _, inner, _ in rows:
        for child in inner:
            places[child] += 1
    found = {}
    for number, row in enumerate(rows):
        if number == len(rows) - 1 or (row[0] in WRITTEN_ONCE and places[number] > 1):
            found[number] = len(found)
    return found


class Lines:
    """The lines of a type, and where its rows are written.

    The lines are a dict of the rows that have some, with their numbers. The pieces of a row are tuples (text, step,
    first) of what is written of it, as in vasttypes.signs, but without the ends; a text that is None is that of an
    inner type, which is written here. The origin of a row that is no variable and no constant is the tuple of the
    line in which it is written and the number of its first sign there.
    """

    def __init__(self, big):
        self.rows = big.rows
        self.lines = own_lines(big.rows)
        self.lengths = []
        self.pieces = []
        for number in range(len(big.rows)):
            self.add_pieces(number)
        self.origins = {}
        for number in range(len(big.rows) - 1, -1, -1):
            self.add_origins(number)

    def add_pieces(self, number):
        """Find the pieces and the length of a row, behind those within it."""
        inner = self.rows[number][2]
        first = 0
        pieces = []
        for text, step in pieces_of(self.rows, number):
            if step is not None and inner[step] in self.lines:
                if text is not None:
                    # There are no brackets around the number of a line.
                    continue
                text = f"#{self.lines[inner[step]]}"
            pieces.append((text, step, first))
            first += self.lengths[inner[step]] if text is None else len(text)
        self.pieces.append(pieces)
        self.lengths.append(first)

    def add_origins(self, number):
        """Find where the rows within a row are written, behind those around it."""
        if number in self.lines:
            self.origins[number] = (self.lines[number], 0)
        line, begin = self.origins[number]
        for text, step, first in self.pieces[number]:
            if text is None:
                self.origins[self.rows[number][2][step]] = (line, begin + first)

    def line_text(self, number):
        """Return the text of the line of a row."""
        texts = []
        waiting = [(None, number)]
        while waiting:
            text, row = waiting.pop()
            if text is not None:
                texts.append(text)
                continue
            inner = self.rows[row][2]
            pieces = [(held, None if step is None else inner[step]) for held, step, _ in self.pieces[row]]
            waiting.extend(pieces[::-1])
        return "".join(texts)

    def within(self, number, step):
        """Return where the inner type of a row is written: the line, the first sign, and the one behind the last."""
        child = self.rows[number][2][step]
        if child in self.lines:
            return self.lines[child], 0, self.lengths[child]
        line, begin = self.origins[number]
        own = [piece for piece in self.pieces[number] if piece[1] == step]
        text, _, last = own[-1]
        return line, begin + own[0][2], begin + last + (self.lengths[child] if text is None else len(text))


def lines_of(big):
    """Return the Lines of a type, which are found once for each Vast."""
    if "lines" not in big.notes:
        big.notes["lines"] = Lines(big)
    return big.notes["lines"]


def shared_lines(big):
    """Return the shared text of a type in which no function, tuple or record is written twice."""
    found = lines_of(big)
    return [found.line_text(number) for number in found.lines]


def line_total(big):
    """Return how many lines the shared text has."""
    return len(lines_of(big).lines)


def line_uses(big):
    """Return the list that tells for each line how many parts are the same as its type."""
    uses = uses_of(big.rows)
    return [uses[number] for number in lines_of(big).lines]


def written(big, path):
    """Return where the part with a path is written: the line, its first sign there, and the one behind its last."""
    row_at(big, path)
    found = lines_of(big)
    if path:
        return found.within(row_at(big, path[:-1]), path[-1])
    return len(found.lines) - 1, 0, found.lengths[-1]


class Graph:
    """The graph that the lines of a shared text make: rows as in vasttypes.rows, of which some may be equal.

    The roots are the nodes of the lines, and the fault tells where the first thing stands that is read, but wrong.
    """

    def __init__(self):
        self.rows = []
        self.roots = []
        self.marks = {}
        self.meanings = {}
        self.fault = None

    def note_fault(self, place):
        """Note that what stands at a place of the line that is being read is wrong."""
        if self.fault is None:
            self.fault = (len(self.roots), place)


class LineReader(TypeReader):
    """A reader of a line, which adds what it reads to a Graph."""

    def __init__(self, text, graph):
        super().__init__(text, graph.marks)
        self.graph = graph
        if graph.roots:
            self.beginnings = (*BEGINNINGS, "#")

    def build(self, word, labels, inner, mark):
        """Add a row, and return its number."""
        self.graph.rows.append((word, tuple(labels), tuple(inner), mark))
        return len(self.graph.rows) - 1

    def meet_mark(self, name, place, labels):
        """Note a variable (without labels) or tail, which must be the same wherever it is."""
        if self.graph.meanings.setdefault(name, labels) != labels:
            self.graph.note_fault(place)

    def meet_field(self, fields, name, place):
        """Note the name of another field, which must be above the one before it."""
        if len(fields) >= MOST_FIELDS or (fields and name <= fields[-1][0]):
            self.graph.note_fault(place)

    def meet_item(self, many, place):
        """Note an item behind so many others."""
        if many >= MOST_ITEMS:
            self.graph.note_fault(place)

    def reference(self):
        """Take the number of an earlier line, and return its node."""
        number = None
        # A line with a further digit must be an earlier one, too; there is none behind a zero.
        while self.stands_between("0", "9") and number != 0:
            further = 10 * (number or 0) + int(self.text[self.at])
            if further >= len(self.graph.roots):
                break
            number = further
            self.at += 1
        if number is None:
            raise InvalidText(self.at)
        return self.graph.roots[number]


def read_line(text, graph):
    """Add the line with a text to a Graph."""
    if not isinstance(text, str):
        raise InvalidText(-1)
    graph.roots.append(LineReader(text, graph).read())


def read_lines(lines):
    """Return the type of a shared text."""
    if not isinstance(lines, list) or not 1 <= len(lines) <= MOST_LINES:
        raise InvalidLines(-1, -1)
    graph = Graph()
    for number, text in enumerate(lines):
        try:
            read_line(text, graph)
        except InvalidText as wrong:
            raise InvalidLines(number, wrong.word) from None
    if graph.fault is not None:
        line, word = graph.fault
        raise InvalidLines(line, word)
    return part_of(graph.rows, graph.roots[-1])
