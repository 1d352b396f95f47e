"""The parts within types by their numbers."""

from vasttypes.errors import InvalidBound
from vasttypes.graphs import inner_rows, own_part, row_at, uses_of
from vasttypes.wholes import is_integer, is_integer_within


def check_number(k, total, argument):
    """Raise an error unless the value of an argument is a number from 0 to a total less 1."""
    if not is_integer_within(k, 0, total - 1):
        raise InvalidBound(argument)


def alike_key(row, classes, orders):
    """Return what rows that are alike have in common, and the list of the marks of a row in the order of the text.

    Given are the classes of the rows within it, which are equal for rows that are alike, and the lists of their marks.
    So what is left to tell is where these rows have marks in common.
    """
    word, labels, inner, mark = row
    places = {}
    held = []
    for child in inner:
        held.append((classes[child], tuple([places.setdefault(other, len(places)) for other in orders[child]])))
    own = None if mark is None else places.setdefault(mark, len(places))
    return (word, labels, tuple(held), own), list(places)


class Alikes:
    """The classes of the rows of a type: rows that are alike have equal ones."""

    def __init__(self, big):
        self.numbers = {}
        self.classes = []
        orders = []
        for row in big.rows:
            key, marks = alike_key(row, self.classes, orders)
            self.classes.append(self.numbers.setdefault(key, len(self.numbers)))
            orders.append(marks)

    def class_of(self, other):
        """Return the class of what is alike to another type, None if nothing is."""
        classes = []
        orders = []
        for row in other.rows:
            key, marks = alike_key(row, classes, orders)
            classes.append(self.numbers.get(key))
            orders.append(marks)
        return classes[-1]

    def flags(self, wanted):
        """Return the list that tells for each row whether it has a class."""
        return [number == wanted for number in self.classes]


def alikes(big):
    """Return the Alikes of a type, which are worked out once for each Vast."""
    if "alikes" not in big.notes:
        big.notes["alikes"] = Alikes(big)
    return big.notes["alikes"]


class Census:
    """Some rows of a type, and how often each row has one of them within it, itself included."""

    def __init__(self, big, chosen):
        self.rows = big.rows
        self.chosen = chosen
        self.counts = []
        for row, is_chosen in zip(big.rows, chosen):
            self.counts.append(int(is_chosen) + sum([self.counts[child] for child in row[2]]))

    def path_to(self, k):
        """Return the path of number k of the parts that are chosen."""
        row = len(self.rows) - 1
        path = []
        while k > 0 or not self.chosen[row]:
            k = k - int(self.chosen[row])
            for step, child in enumerate(self.rows[row][2]):
                if k < self.counts[child]:
                    break
                k = k - self.counts[child]
            path.append(step)
            row = child
        return tuple(path)

    def number_before(self, path):
        """Return how many of the parts that are chosen begin before the one with a path."""
        row = len(self.rows) - 1
        total = 0
        for step in path:
            inner = self.rows[row][2]
            total += int(self.chosen[row]) + sum([self.counts[child] for child in inner[:step]])
            row = inner[step]
        return total


def census_of_all(big):
    """Return the Census of all rows, which is worked out once for each Vast."""
    if "census" not in big.notes:
        big.notes["census"] = Census(big, [True] * len(big.rows))
    return big.notes["census"]


def census_of_alike(big, other):
    """Return the Census of the rows that are alike to another type."""
    own = alikes(big)
    wanted = own.class_of(other)
    return Census(big, own.flags(wanted))


def census_of_same(big, row):
    """Return the Census of a row alone."""
    return Census(big, [number == row for number in range(len(big.rows))])


def alike_total(big, other):
    """Return how many parts of a type are alike to another type."""
    return census_of_alike(big, other).counts[-1]


def same_total(big, path):
    """Return how many parts of a type are the same as the one with a path, itself included."""
    return uses_of(big.rows)[row_at(big, path)]


def part_number(big, path):
    """Return the number of the part with a path."""
    row_at(big, path)
    return census_of_all(big).number_before(path)


def path_of(big, k):
    """Return the path of part number k."""
    census = census_of_all(big)
    check_number(k, census.counts[-1], "k")
    return census.path_to(k)


def alike_path(big, other, k):
    """Return the path of number k of the parts that are alike to another type."""
    census = census_of_alike(big, other)
    check_number(k, census.counts[-1], "k")
    return census.path_to(k)


def same_path(big, path, k):
    """Return the path of number k of the parts that are the same as the one with a path."""
    census = census_of_same(big, row_at(big, path))
    check_number(k, census.counts[-1], "k")
    return census.path_to(k)


def alike_number(big, path):
    """Return how many parts that are alike to the one with a path begin before it."""
    row = row_at(big, path)
    own = alikes(big)
    return Census(big, own.flags(own.classes[row])).number_before(path)


def same_number(big, path):
    """Return how many parts that are the same as the one with a path begin before it."""
    return census_of_same(big, row_at(big, path)).number_before(path)


def rows_by_beginning(big):
    """Return the list of the numbers of all rows of a type, in the order in which they first begin in its text."""
    inner = inner_rows(big)
    found = {}
    waiting = [len(inner) - 1]
    while waiting:
        row = waiting.pop()
        if row not in found:
            found[row] = True
            waiting.extend([child for child in inner[row] if child not in found][::-1])
    return list(found)


def unlike_rows(big):
    """Return the list of tuples (row, count) for the first row of each class, in the order in which they begin."""
    classes = alikes(big).classes
    counts = {}
    for number, uses in zip(classes, uses_of(big.rows)):
        counts[number] = counts.get(number, 0) + uses
    firsts = {}
    for row in rows_by_beginning(big):
        firsts.setdefault(classes[row], row)
    return [(row, counts[number]) for number, row in firsts.items()]


def alike_parts(big):
    """Return the list of tuples (part, count) for all parts that are not alike to an earlier one."""
    return [(own_part(big, row), count) for row, count in unlike_rows(big)]


def greatest_part(big, times):
    """Return the greatest of the parts with a count of at least so many, the first one of several, or None."""
    if not is_integer(times) or times < 1:
        raise InvalidBound("times")
    sizes = census_of_all(big).counts
    best = None
    for row, count in unlike_rows(big):
        if count >= times and (best is None or sizes[row] > sizes[best]):
            best = row
    return None if best is None else own_part(big, best)


def level_below(rows, level):
    """Return the dict that tells for each row how often it is directly within those of another such dict."""
    found = {}
    for row, count in level.items():
        for child in rows[row][2]:
            found[child] = found.get(child, 0) + count
    return found


def widths(big):
    """Return the list of how many parts have paths of 0, 1, 2, .. numbers."""
    found = []
    level = {len(big.rows) - 1: 1}
    while level:
        found.append(sum(list(level.values())))
        level = level_below(big.rows, level)
    return found


def counts_below(big, deep):
    """Return, for each number of steps up to deep, the dict that tells for each row how many parts are deep below.

    Each dict has the rows to which paths of so many numbers lead; below are the parts with paths of deep numbers.
    """
    levels = [{len(big.rows) - 1: 1}]
    for _ in range(deep):
        levels.append(level_below(big.rows, levels[-1]))
    found = [{row: 1 for row in levels[-1]}]
    for level in levels[:-1][::-1]:
        below = found[-1]
        found.append({row: sum([below[child] for child in big.rows[row][2]]) for row in level})
    return found[::-1]


def path_below(big, deep, k):
    """Return the path of number k of the parts whose paths have so many numbers."""
    check_number(deep, big.height(), "deep")
    counts = counts_below(big, deep)
    row = len(big.rows) - 1
    check_number(k, counts[0][row], "k")
    path = []
    for below in counts[1:]:
        for step, child in enumerate(big.rows[row][2]):
            if k < below[child]:
                break
            k = k - below[child]
        path.append(step)
        row = child
    return tuple(path)
