"""The rules that the types of terms keep, and how they are applied, node by node."""

from vasttypes.errors import NoType
from vasttypes.graphs import MOST_PARTS, limited
from vasttypes.rows import woven
from vasttypes.terms import BOUND_IN, inner_terms
from vasttypes.webs import Web


class Scheme:
    """A type of which each use has an instance.

    The marks are those of the web for the marks of the rows, and fixed has those that stay the same.
    """

    def __init__(self, web, rows, nodes, marks, fixed):
        self.web = web
        self.rows = rows
        self.nodes = nodes
        self.marks = marks
        self.fixed = fixed
        self.general = []
        for _, _, inner, mark in rows:
            is_own = mark is not None and marks[mark] not in fixed
            self.general.append(is_own or any([self.general[child] for child in inner]))

    def tail_of(self, mark, tails):
        """Return the tail of an instance for the mark of a record, given those that the instance has already."""
        if mark is None:
            return None
        if self.marks[mark] in self.fixed:
            return -1 - self.marks[mark]
        if mark not in tails:
            tails[mark] = self.web.tail()
        return tails[mark]

    def instance(self):
        """Return the nodes of an instance for all rows, and its tails by marks.

        What has nothing general within it is taken as it is.
        """
        made = []
        tails = {}
        for row, node, is_general in zip(self.rows, self.nodes, self.general):
            word, labels, inner, mark = row
            if not is_general:
                made.append(node)
            elif word == "var":
                made.append(self.web.variable())
            else:
                inside = tuple([made[child] for child in inner])
                made.append(self.web.node((word, labels, inside, self.tail_of(mark, tails))))
        return made, tails

    def replacements(self, made, tails):
        """Return the dict of what an instance has in the place of each general mark of the web."""
        found = {self.marks[mark]: -1 - tail for mark, tail in tails.items()}
        for (word, _, _, mark), node, is_general in zip(self.rows, made, self.general):
            if word == "var" and is_general:
                found[self.marks[mark]] = node
        return found


class Visit:
    """The visit of a node of a term that has begun: what names mean there, what is around it, and what was found.

    Around it are the types of parameters and recs. A name means the node of a type, or a Scheme. The entry is what the
    name that the node itself binds means.
    """

    def __init__(self, term, path, names, around, entry):
        self.subject = term
        self.path = path
        self.inner = inner_terms(term)
        self.meanings = names
        self.around = around
        self.entry = entry
        self.found = []


class Course:
    """The course of finding the types of all nodes of a term, in the order in which they end.

    The free names of the term are names of a library, or unknowns: names of which each has one type at all its places.
    The instances are those at the uses of names, by their paths: the Scheme, and what it returned.
    """

    def __init__(self, library, unknowns=()):
        self.web = Web()
        self.library = library
        self.unknowns = {name: self.web.variable() for name in unknowns}
        self.schemes = {}
        self.instances = {}
        self.types_found = {}
        self.definitions = []
        # The paths of the nodes whose rules have been applied, the last one perhaps in vain.
        self.ends = []

    def begin(self, term, path, names, around):
        """Return the Visit of a node."""
        entry = self.web.variable() if term[0] == "fun" or term[0] == "rec" else None
        return Visit(term, path, names, around, entry)

    def begin_next(self, visit):
        """Return the Visit of the next node within a node."""
        step = len(visit.found)
        names = visit.meanings
        around = visit.around
        if step in BOUND_IN.get(visit.subject[0], ()):
            names = {**names, visit.subject[1]: visit.entry}
            if isinstance(visit.entry, int):
                around = (*around, visit.entry)
        return self.begin(visit.inner[step], visit.path + (step,), names, around)

    def run(self, term, many):
        """Find the types of the nodes of a term, up to the one with which so many have ended.

        Raise NoType if types clash. Whether types are within themselves is left to the caller, except where this
        would hinder the run.
        """
        visits = [self.begin(term, (), self.unknowns, tuple(list(self.unknowns.values())))]
        while len(self.types_found) < many:
            visit = visits[-1]
            if len(visit.found) < len(visit.inner):
                visits.append(self.begin_next(visit))
                continue
            visits.pop()
            self.ends.append(visit.path)
            rule = RULES[visit.subject[0]]
            found = rule(self, visit)
            self.types_found[visit.path] = found
            if visits:
                self.take(visits[-1], found)

    def take(self, visit, found):
        """Take the type of the node within a node that has ended."""
        visit.found.append(found)
        if visit.subject[0] in ("let", "rec") and len(visit.found) == 1:
            self.define(visit, found)

    def define(self, visit, found):
        """Take the type of a definition, when it ends."""
        if visit.entry is not None:
            self.equate(visit.path + (0,), visit.entry, found)
        weaver = woven(self.web.leader(found), self.web.look)
        if weaver is None or (len(weaver.rows) > MOST_PARTS and self.web.has_circle()):
            raise NoType(visit.path + (0,))
        self.definitions.append((visit.path, limited(weaver.rows)))
        fixed = self.web.marks_within(visit.around)
        visit.entry = Scheme(self.web, weaver.rows, weaver.nodes, list(weaver.marks), fixed)

    def use(self, path, name, names):
        """Return the node of the type of the use of a name with a path."""
        meant = names[name] if name in names else self.scheme_of(name)
        if not isinstance(meant, Scheme):
            return meant
        made, tails = meant.instance()
        self.instances[path] = (meant, made, tails)
        return made[-1]

    def scheme_of(self, name):
        """Return the Scheme of a name of the library."""
        if name not in self.schemes:
            rows = self.library[name].rows
            marks = list(range(len(rows)))
            self.schemes[name] = Scheme(self.web, rows, self.web.planted(rows), marks, {})
        return self.schemes[name]

    def equate(self, path, one, other):
        """Make two types equal by a rule of the node with a path."""
        if not self.web.joins(one, other):
            raise NoType(path)


def rule_of_constant(course, visit):
    """Return the type of an int or bool; the next functions do so for the other kinds."""
    return course.web.node((visit.subject[0], (), (), None))


def rule_of_var(course, visit):
    """Return the type of a use of a name."""
    return course.use(visit.path, visit.subject[1], visit.meanings)


def rule_of_fun(course, visit):
    """Return the type of a function."""
    return course.web.function(visit.entry, visit.found[0])


def rule_of_app(course, visit):
    """Return the type of a function that is used."""
    result = course.web.variable()
    course.equate(visit.path, visit.found[0], course.web.function(visit.found[1], result))
    return result


def rule_of_definition(course, visit):
    """Return the type of a let or rec."""
    return visit.found[1]


def rule_of_if(course, visit):
    """Return the type of an if."""
    course.equate(visit.path, visit.found[0], course.web.node(("bool", (), (), None)))
    course.equate(visit.path, visit.found[1], visit.found[2])
    return visit.found[1]


def rule_of_tuple(course, visit):
    """Return the type of a tuple."""
    return course.web.node(("tuple", (), tuple(visit.found), None))


def rule_of_part(course, visit):
    """Return the type of an item of a tuple."""
    inner = [course.web.variable() for _ in range(visit.subject[2])]
    course.equate(visit.path, visit.found[0], course.web.node(("tuple", (), tuple(inner), None)))
    return inner[visit.subject[1]]


def rule_of_record(course, visit):
    """Return the type of a record."""
    labels = [name for name, _ in visit.subject[1]]
    return course.web.node(("record", tuple(labels), tuple(visit.found), None))


def rule_of_field(course, visit):
    """Return the type of a field of a record."""
    held = course.web.variable()
    wanted = course.web.node(("record", (visit.subject[2],), (held,), course.web.tail()))
    course.equate(visit.path, visit.found[0], wanted)
    return held


def rule_of_with(course, visit):
    """Return the type of a record with another field in the place of one that it has."""
    labels = (visit.subject[2],)
    tail = course.web.tail()
    wanted = course.web.node(("record", labels, (course.web.variable(),), tail))
    course.equate(visit.path, visit.found[0], wanted)
    return course.web.node(("record", labels, (visit.found[1],), tail))


RULES = {
    "var": rule_of_var,
    "int": rule_of_constant,
    "bool": rule_of_constant,
    "fun": rule_of_fun,
    "app": rule_of_app,
    "let": rule_of_definition,
    "rec": rule_of_definition,
    "if": rule_of_if,
    "tuple": rule_of_tuple,
    "part": rule_of_part,
    "record": rule_of_record,
    "field": rule_of_field,
    "with": rule_of_with,
}
