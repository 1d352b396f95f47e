"""Two texts of types, and where they differ."""

from vasttypes.errors import InvalidBound
from vasttypes.graphs import Vast, row_at
from vasttypes.signs import layout, sign_at, text_length
from vasttypes.treetexts import needs_brackets
from vasttypes.typereaders import agreement


def common_numbers(bigs):
    """Return for each of several types the list of numbers of its rows, in which equal texts have equal numbers.

    Since marks have the same names in all texts, rows have equal texts exactly if they and all within them are equal.
    """
    numbers = {}
    found = []
    for big in bigs:
        own = []
        for word, labels, inner, mark in big.rows:
            row = (word, labels, tuple([own[child] for child in inner]), mark)
            own.append(numbers.setdefault(row, len(numbers)))
        found.append(own)
    return found


class Cursor:
    """What is left of the text of a part: tuples (text, row), the next one on top, of which one is None."""

    def __init__(self, big, numbers, waiting):
        self.layout = layout(big)
        self.numbers = numbers
        self.waiting = waiting

    def next_number(self):
        """Return the common number of the row that comes next, None for signs."""
        row = self.waiting[-1][1]
        return None if row is None else self.numbers[row]

    def next_length(self):
        """Return how long the row that comes next is, 0 for signs."""
        row = self.waiting[-1][1]
        return 0 if row is None else self.layout[row][-1][4]

    def open_row(self):
        """Put its pieces in the place of the row that comes next."""
        _, row = self.waiting.pop()
        self.waiting.extend([(text, child) for text, _, child, _, _ in self.layout[row]][::-1])

    def pass_signs(self, many):
        """Pass so many signs of the text that comes next."""
        text, _ = self.waiting.pop()
        if many < len(text):
            self.waiting.append((text[many:], None))


def agreed_signs(one, other):
    """Return how many of the signs that come next are equal, and pass them; both have signs next."""
    text = one.waiting[-1][0]
    match = other.waiting[-1][0]
    many = agreement(text, 0, match)
    one.pass_signs(many)
    other.pass_signs(many)
    return many


def is_apart(one, other):
    """Tell whether two cursors have unlike signs next."""
    text, row = one.waiting[-1]
    match, child = other.waiting[-1]
    return row is None and child is None and text[0] != match[0]


def agreed_length(one, other):
    """Return how many signs the texts of two cursors have in common from here on.

    As long as no sign differs, equal items begin and end together in both texts. So all rows are passed at once but
    those that lead to the first difference.
    """
    total = 0
    while one.waiting and other.waiting and not is_apart(one, other):
        length = one.next_length()
        width = other.next_length()
        if length == 0 and width == 0:
            total += agreed_signs(one, other)
        elif one.next_number() == other.next_number():
            total += length
            one.waiting.pop()
            other.waiting.pop()
        else:
            # A row that is the beginning of the other one is found within it.
            if length >= width:
                one.open_row()
            if width >= length:
                other.open_row()
    return total


def whole_cursor(big, numbers):
    """Return the Cursor of the text of a type."""
    return Cursor(big, numbers, [(None, len(big.rows) - 1)])


def part_cursor(big, numbers, path):
    """Return the Cursor of a part as it stands in the text of a type, with the brackets around it."""
    row = row_at(big, path)
    if path:
        around = big.rows[row_at(big, path[:-1])][0]
        if needs_brackets(around, path[-1], big.rows[row][0]):
            return Cursor(big, numbers, [(")", None), (None, row), ("(", None)])
    return Cursor(big, numbers, [(None, row)])


def parting(bigs, numbers, first, second):
    """Return how many signs the texts of two of several types have in common from their beginnings on."""
    one = whole_cursor(bigs[first], numbers[first])
    return agreed_length(one, whole_cursor(bigs[second], numbers[second]))


def is_less(one, other, shared):
    """Tell whether a text is less than an unlike one, given how many signs they have in common."""
    if shared == text_length(one) or shared == text_length(other):
        return shared == text_length(one)
    return sign_at(one, shared) < sign_at(other, shared)


def first_difference(one, other):
    """Return the number of the first sign in which the texts of two types differ, None if they are equal."""
    if one == other:
        return None
    bigs = [one, other]
    return parting(bigs, common_numbers(bigs), 0, 1)


def compared(one, other):
    """Return -1, 0 or 1 if the text of a type is less than that of another one, equal to it, or greater."""
    shared = first_difference(one, other)
    if shared is None:
        return 0
    return -1 if is_less(one, other, shared) else 1


def agreeing(one, path, other, way):
    """Return how many signs two parts, as they stand in their texts, have in common from their beginnings on."""
    row_at(one, path)
    row_at(other, way)
    numbers = common_numbers([one, other])
    return agreed_length(part_cursor(one, numbers[0], path), part_cursor(other, numbers[1], way))


def place_among(bigs, numbers, ordered, number):
    """Return where the item with a number belongs among ordered ones, whose texts are all unlike it."""
    low = 0
    high = len(ordered)
    while low < high:
        middle = (low + high) // 2
        shared = parting(bigs, numbers, number, ordered[middle])
        if is_less(bigs[number], bigs[ordered[middle]], shared):
            high = middle
        else:
            low = middle + 1
    return low


def ranked(bigs):
    """Return the numbers of the items of a list of types in the order of their texts."""
    if not isinstance(bigs, list) or not all([isinstance(big, Vast) for big in bigs]):
        raise InvalidBound("bigs")
    numbers = common_numbers(bigs)
    alike = {}
    for number, own in enumerate(numbers):
        alike.setdefault(own[-1], []).append(number)
    ordered = []
    for same in alike.values():
        ordered.insert(place_among(bigs, numbers, ordered, same[0]), same[0])
    return [number for first in ordered for number in alike[numbers[first][-1]]]
