"""What the names of a library can be used for, and what can be put in the place of a free name of a term."""

from itertools import combinations

from vasttypes.errors import InvalidBound, InvalidName, LimitExceeded
from vasttypes.graphs import Vast
from vasttypes.inference import is_library, kept_course, type_if_any
from vasttypes.order import is_instance, matched
from vasttypes.terms import check_term, free_names, free_uses
from vasttypes.webs import VARIABLE, Web, shifted
from vasttypes.wholes import is_integer_within

MOST_NAMES = 100
MOST_ARGUMENTS = 5
MOST_USED = 2
MOST_ROWS = 10000
MOST_TO_COVER_WITH = 12
MOST_WANTS = 30


def check_library(library):
    """Raise an error unless a value is a library with not too many names."""
    if not is_library(library) or len(library) > MOST_NAMES:
        raise InvalidBound("library")


def are_vasts(value, least, most):
    """Tell whether a value is a list or tuple of so many Vasts."""
    if not isinstance(value, (list, tuple)) or not least <= len(value) <= most:
        return False
    return all([isinstance(big, Vast) for big in value])


def fits(library, wanted):
    """Return the ascending list of the names whose types have another type as an instance."""
    check_library(library)
    return [name for name in sorted(library) if is_instance(wanted, library[name])]


def do_meet(first, second):
    """Tell whether two types have a common instance, of any size."""
    web = Web()
    return web.joins(web.planted(first.rows)[-1], web.planted(second.rows)[-1]) and not web.has_circle()


def meets(library, wanted):
    """Return the ascending list of the names whose types have a common instance with another type."""
    check_library(library)
    return [name for name in sorted(library) if do_meet(library[name], wanted)]


def applied(function, arguments):
    """Return the type of a function that is used with arguments, one after the other, None if it cannot be."""
    if not are_vasts(arguments, 1, MOST_ARGUMENTS):
        raise InvalidBound("arguments")
    web = Web()
    node = web.planted(function.rows)[-1]
    for big in arguments:
        node = web.use(node, web.planted(big.rows)[-1])
        if node is None:
            return None
    return None if web.has_circle() else web.vast_of(node)


class Trials:
    """What has been found while functions of a library are used with others: the pairs and triples of names.

    In the web of a trial the types stand at the same numbers again and again, with room for the largest of them, so
    that their rows are made once for each place: that of the function, and those of what it is used with. Behind each
    of the latter there are the two nodes that a use adds.
    """

    def __init__(self, library, wanted, most):
        self.library = library
        self.ordered = sorted(library)
        self.wanted = wanted
        self.most = most
        self.room = max([len(library[name].rows) for name in self.ordered], default=0)
        self.shapes = [{name: self.shapes_at(name, place) for name in self.ordered} for place in range(most + 1)]
        self.rows = [[] for _ in range(most)]

    def first_at(self, place):
        """Return the number of the first node at a place."""
        return place * (self.room + 2) - 2 if place > 0 else 0

    def shapes_at(self, name, place):
        """Return the rows of the nodes for the type of a name at a place."""
        shapes = shifted(self.library[name].rows, self.first_at(place), place * self.room)
        return shapes + [VARIABLE] * (self.room - len(shapes))

    def placed(self, web, name, place):
        """Return the node for the type of a name at a place of a web, whose nodes come next."""
        web.add_shapes(self.shapes[place][name])
        return self.first_at(place) + len(self.library[name].rows) - 1

    def can_be_wanted(self, web, node, many):
        """Tell whether the type that is wanted can be an instance of what a node returns when it is used so often.

        What it is used with, which can make this less general, is left out.
        """
        node = web.leader(node)
        for _ in range(many):
            row = web.row(node)
            if row[0] != "fun":
                return row[0] == "var"
            node = web.leader(row[2][1])
        return matched(node, web.look, self.wanted.rows) is not None

    def try_function(self, name):
        """Use the type of a name with all others."""
        web = Web()
        # There are as many tails as there could be, since their numbers are those of the places, too.
        web.add_tails(self.room * (self.most + 1))
        self.try_names(web, self.placed(web, name, 0), (name,))

    def try_names(self, web, node, names):
        """Use the node of a function, which has been used with the names behind the first one, with all others."""
        place = len(names)
        if not any([self.can_be_wanted(web, node, many) for many in range(1, self.most - place + 2)]):
            return
        for name in self.ordered:
            trial = web.forked()
            result = trial.use(node, self.placed(trial, name, place))
            if result is None:
                continue
            if self.can_be_wanted(trial, result, 0) and not trial.has_circle():
                self.rows[place - 1].append((*names, name))
            if place < self.most:
                self.try_names(trial, result, (*names, name))


def uses(library, wanted, most):
    """Return the list of the tuples of names of which the first one, used with the others, has a wanted type."""
    check_library(library)
    if not is_integer_within(most, 0, MOST_USED):
        raise InvalidBound("most")
    total = len(library)
    for _ in range(most):
        total = total * len(library)
    if total > MOST_ROWS:
        raise LimitExceeded(MOST_ROWS)
    trials = Trials(library, wanted, most)
    if most > 0:
        for name in trials.ordered:
            trials.try_function(name)
    found = [(name,) for name in fits(library, wanted)]
    for row in trials.rows:
        found.extend(row)
    return found


def demand(term):
    """Return the list of the free names of a term, and the type of the term as a function of them."""
    names = free_names(term)
    course = kept_course(term, {}, names)
    node = course.types_found[()]
    for name in names[::-1]:
        node = course.web.function(course.unknowns[name], node)
    return names, course.web.vast_of(node)


def fills(term, name, library):
    """Return the list of tuples (other, big) for the names that can be put in the place of a free name of a term."""
    check_term(term)
    check_library(library)
    free = free_uses(term)
    if not isinstance(name, str) or name not in free or name in library:
        raise InvalidName(name)
    for other in free:
        if other != name and other not in library:
            raise InvalidName(other)
    tried = [(other, type_if_any(term, {**library, name: library[other]})) for other in sorted(library)]
    return [(other, big) for other, big in tried if big is not None]


def do_cover(chosen, fitting, many):
    """Tell whether each of so many types is fitted by one of the names that are chosen."""
    return all([any([fitting[name][number] for name in chosen]) for number in range(many)])


def cover(library, wants):
    """Return the smallest list of names such that each of the types is fitted by one of them, None if there is none."""
    check_library(library)
    if len(library) > MOST_TO_COVER_WITH:
        raise LimitExceeded(MOST_TO_COVER_WITH)
    if not are_vasts(wants, 0, MOST_WANTS):
        raise InvalidBound("wants")
    names = sorted(library)
    fitting = {name: [is_instance(big, library[name]) for big in wants] for name in names}
    for size in range(len(names) + 1):
        for chosen in combinations(names, size):
            if do_cover(chosen, fitting, len(wants)):
                return list(chosen)
    return None
