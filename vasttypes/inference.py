"""The types of terms."""

from vasttypes.errors import InvalidBound, InvalidName, LimitExceeded, NoType
from vasttypes.graphs import Vast
from vasttypes.rules import Course
from vasttypes.terms import MOST_FIELDS, check_term, free_uses, is_name, node_at, node_count, paths


def is_library(value):
    """Tell whether a value is a dict from names to Vasts."""
    if not isinstance(value, dict):
        return False
    return all([is_name(name) and isinstance(big, Vast) for name, big in value.items()])


def clash(course, term, many):
    """Run a Course up to the end of so many nodes; return the path of the node at which types clash, or None."""
    try:
        course.run(term, many)
    except NoType as broken:
        return broken.path
    return None


def are_kept(term, library, unknowns, many):
    """Tell whether all rules can be kept up to the end of so many nodes."""
    course = Course(library, unknowns)
    return clash(course, term, many) is None and not course.web.has_circle()


def broken_path(term, library, unknowns):
    """Return the path of the first node, in the order in which they end, up to which the rules cannot all be kept.

    What cannot be kept up to a node cannot be kept up to a later one, so the place is found by trying halves.
    """
    # A node ends behind all within it, as if another step that is above all others led to its end.
    ends = sorted(paths(term), key=lambda path: path + (MOST_FIELDS,))
    kept = 0
    broken = len(ends)
    while broken - kept > 1:
        middle = (kept + broken) // 2
        if are_kept(term, library, unknowns, middle):
            kept = middle
        else:
            broken = middle
    return ends[broken - 1]


def kept_course(term, library, unknowns):
    """Return the Course of a term that has been checked, and whose free names are known."""
    course = Course(library, unknowns)
    path = clash(course, term, node_count(term))
    if course.web.has_circle():
        # It can be there since long before the types clashed.
        path = broken_path(term, library, unknowns)
    if path is not None:
        raise NoType(path)
    return course


def run_in(term, library):
    """Return the Course of a term that has been checked, and the type of the whole."""
    for name in free_uses(term):
        if name not in library:
            raise InvalidName(name)
    course = kept_course(term, library, ())
    return course, course.web.vast_of(course.types_found[()])


def type_if_any(term, library):
    """Return what infer_in returns for a term that has been checked, and None where it raises an error."""
    course = Course(library)
    try:
        course.run(term, node_count(term))
        if course.web.has_circle():
            return None
        return course.web.vast_of(course.types_found[()])
    except (NoType, LimitExceeded):
        return None


def infer(term):
    """Return the most general type of a term."""
    check_term(term)
    _, big = run_in(term, {})
    return big


def infer_in(term, library):
    """Return the most general type of a term whose free names are names of a library."""
    check_term(term)
    if not is_library(library):
        raise InvalidBound("library")
    _, big = run_in(term, library)
    return big


def definition_types(term):
    """Return the list of tuples (path, big) for the definitions of a term, in the order in which they end."""
    check_term(term)
    course, _ = run_in(term, {})
    return course.definitions


def node_type(term, path):
    """Return the type of the node with a path."""
    check_term(term)
    course, _ = run_in(term, {})
    node_at(term, path)
    return course.web.vast_of(course.types_found[path])
