"""What types have in common, and what becomes of a type if parts of it become equal."""

from vasttypes.errors import InvalidBound
from vasttypes.graphs import Follower, Vast, row_at
from vasttypes.webs import Web

MOST_BIGS = 20
MOST_PAIRS = 100


def common_instance(first, second):
    """Return the most general type that is an instance of both types, None if there is none."""
    return common_instance_of([first, second])


def common_instance_of(bigs):
    """Return the most general type that is an instance of all types, None if there is none."""
    if not are_bigs(bigs):
        raise InvalidBound("bigs")
    web = Web()
    roots = [web.planted(big.rows)[-1] for big in bigs]
    for root in roots:
        if not web.joins(roots[0], root):
            return None
    return web.vast_of(roots[0])


def are_bigs(value):
    """Tell whether a value is a list or tuple of 1 to 20 Vasts."""
    if not isinstance(value, (list, tuple)) or not 1 <= len(value) <= MOST_BIGS:
        return False
    return all([isinstance(big, Vast) for big in value])


def is_pair(value):
    """Tell whether a value is a tuple of two items."""
    return isinstance(value, tuple) and len(value) == 2


def row_pairs(big, pairs):
    """Return the list of the pairs of the numbers of rows for pairs of paths."""
    if not isinstance(pairs, (list, tuple)) or len(pairs) > MOST_PAIRS:
        raise InvalidBound("pairs")
    if not all([is_pair(pair) for pair in pairs]):
        raise InvalidBound("pairs")
    follower = Follower(big)
    return [(follower.row_at(path), follower.row_at(other)) for path, other in pairs]


class Equating:
    """A type in which parts have been made equal: the first so many pairs of rows, apart from circles.

    The pairs that are left begin with one that cannot be made equal, if there are some; the web is spoilt then.
    """

    def __init__(self, big, numbers):
        self.web = Web()
        self.nodes = self.web.planted(big.rows)
        self.many = 0
        for one, other in numbers:
            if not self.web.joins(self.nodes[one], self.nodes[other]):
                break
            self.many += 1
        self.is_done = self.many == len(numbers)

    def whole(self):
        """Return the Vast of what the type has become, None if not all pairs could be made equal."""
        # A circle anywhere would be found here, since all nodes are within that of the whole.
        return self.web.vast_of(self.nodes[-1]) if self.is_done else None

    def part(self, number):
        """Return the Vast of what the row with a number has become, None if not all pairs could be made equal."""
        if not self.is_done or self.web.has_circle():
            return None
        return self.web.vast_of(self.nodes[number])


def has_result(big, numbers):
    """Tell whether all pairs of rows can be made equal."""
    equating = Equating(big, numbers)
    return equating.is_done and not equating.web.has_circle()


def most_fitting(big, numbers):
    """Return the greatest number of pairs of rows, from the first one on, that can be made equal."""
    equating = Equating(big, numbers)
    if not equating.is_done:
        # Circles count only where they come from pairs ahead of the one that cannot be made equal.
        equating = Equating(big, numbers[:equating.many])
    if not equating.web.has_circle():
        return equating.many
    # With more pairs there is no result if there is none with fewer; mostly the last pair closes the circle.
    fitting_many = 0
    broken = equating.many
    middle = broken - 1
    while broken - fitting_many > 1:
        if has_result(big, numbers[:middle]):
            fitting_many = middle
        else:
            broken = middle
        middle = (fitting_many + broken) // 2
    return fitting_many


def equated(big, pairs):
    """Return the most general instance of a type in which the two parts of each pair are equal, None if none is."""
    return Equating(big, row_pairs(big, pairs)).whole()


def fitting(big, pairs):
    """Return the greatest number of pairs, from the first one on, that alone have a result."""
    return most_fitting(big, row_pairs(big, pairs))


def becomes(big, pairs, path):
    """Return what the part with a path becomes if the two parts of each pair are equal, None if they cannot be."""
    numbers = row_pairs(big, pairs)
    number = row_at(big, path)
    return Equating(big, numbers).part(number)
