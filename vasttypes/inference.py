"""The types of terms."""

from vasttypes.errors import InvalidBound, InvalidName, LimitExceeded, NoType
from vasttypes.graphs import Vast
from vasttypes.rules import Course
from vasttypes.terms import check_term, free_uses, is_name, node_at, node_count


def is_library(value):
    """Tell whether a value is a dict from names to Vasts."""
    if not isinstance(value, dict):
        return False
    return all([is_name(name) and isinstance(big, Vast) for name, big in value.items()])


def are_kept(course, term, many):
    """Run a Course up to the end of so many nodes, and tell whether all rules can be kept up to there."""
    try:
        course.run(term, many)
    except NoType:
        # Types that clash have become equal in part, so the web tells nothing of circles any more.
        return False
    return not course.web.has_circle()


def broken_path(term, library, unknowns, ends):
    """Return the path of the first node, in the order in which they end, up to which the rules cannot all be kept.

    The ends are the paths of the first nodes in this order, up to one up to which they cannot be kept.
    """
    kept = 0
    broken = len(ends)
    # What cannot be kept up to a node cannot be kept up to a later one, so the place is found by trying halves; but
    # first ahead of the last one, at which types mostly clash.
    middle = broken - 1
    while broken - kept > 1:
        if are_kept(Course(library, unknowns), term, middle):
            kept = middle
        else:
            broken = middle
        middle = (kept + broken) // 2
    return ends[broken - 1]


def kept_course(term, library, unknowns):
    """Return the Course of a term that has been checked, and whose free names are known."""
    course = Course(library, unknowns)
    if not are_kept(course, term, node_count(term)):
        # A type can be within itself since long before the node at which the course ended.
        raise NoType(broken_path(term, library, unknowns, course.ends))
    return course


def run_in(term, library):
    """Return the Course of a term that has been checked, and the type of the whole."""
    for name in free_uses(term):
        if name not in library:
            raise InvalidName(name)
    course = kept_course(term, library, ())
    return course, course.web.vast_of(course.types_found[()])


def type_if_any(term, library):
    """Return what infer_in returns for a term that has been checked, and None where it raises an error."""
    course = Course(library)
    try:
        if not are_kept(course, term, node_count(term)):
            return None
        return course.web.vast_of(course.types_found[()])
    except LimitExceeded:
        return None


def infer(term):
    """Return the most general type of a term."""
    check_term(term)
    _, big = run_in(term, {})
    return big


def infer_in(term, library):
    """Return the most general type of a term whose free names are names of a library."""
    check_term(term)
    if not is_library(library):
        raise InvalidBound("library")
    _, big = run_in(term, library)
    return big


def definition_types(term):
    """Return the list of tuples (path, big) for the definitions of a term, in the order in which they end."""
    check_term(term)
    course, _ = run_in(term, {})
    return course.definitions


def node_type(term, path):
    """Return the type of the node with a path."""
    check_term(term)
    course, _ = run_in(term, {})
    node_at(term, path)
    return course.web.vast_of(course.types_found[path])
