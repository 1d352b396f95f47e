"""Desks: definitions in an order, which are typed anew when they are edited."""

from vasttypes.errors import InvalidBound, InvalidCall, InvalidName, LimitExceeded, NoType
from vasttypes.graphs import Vast
from vasttypes.inference import run_in
from vasttypes.order import is_instance
from vasttypes.terms import BOUND_IN, check_term, copied, free_uses, inner_terms, is_name
from vasttypes.wholes import is_integer_within

MOST_DEFINITIONS = 100
MOST_EDITS = 1000

# How many items the edits have.
EDIT_SIZES = {"add": 4, "drop": 2, "put": 3, "move": 3, "rename": 3}


class Definition:
    """A definition, which is not changed, so that it can be kept: an edit makes another one with the same number.

    The free names stand in the order in which they occur. Known is the dict of the types of the good definitions that
    they mean, None for those that mean none; found is the state.
    """

    def __init__(self, number, called, body, free):
        self.number = number
        self.called = called
        self.body = body
        self.free = free
        self.known = {}
        self.found = None

    def settled(self, name, known, found):
        """Return the same definition with a name, what its free names mean, and its state."""
        same = Definition(self.number, name, self.body, self.free)
        same.known = known
        same.found = found
        return same


def defined(number, called, body):
    """Return the Definition of a term, which has not been typed."""
    return Definition(number, called, body, list({name: True for name in free_uses(body)}))


def names_within(term):
    """Return the dict of the names that occur in a term, free or as parameters or defined."""
    found = {}
    waiting = [term]
    while waiting:
        node = waiting.pop()
        if node[0] == "var" or node[0] in BOUND_IN:
            found[node[1]] = True
        waiting.extend(inner_terms(node))
    return found


def renamed(term, name, other):
    """Return a term with another name at all places where a name is free."""
    if term[0] == "var":
        return ("var", other) if term[1] == name else term
    if term[0] == "tuple":
        return ("tuple", [renamed(item, name, other) for item in term[1]])
    if term[0] == "record":
        return ("record", [(label, renamed(inner, name, other)) for label, inner in term[1]])
    hidden = BOUND_IN.get(term[0], ()) if term[1] == name else ()
    found = []
    step = 0
    for held in term:
        if isinstance(held, tuple):
            found.append(held if step in hidden else renamed(held, name, other))
            step += 1
        else:
            found.append(held)
    return tuple(found)


def copied_edit(edit):
    """Return an edit with a new term."""
    return (*edit[:-1], copied(edit[-1])) if edit[0] in ("add", "put") else edit


def missing_name(definition, known):
    """Return the first free name of a definition that means no good one, None if there is none."""
    for name in definition.free:
        if known[name] is None:
            return name
    return None


def state_of(definition, known):
    """Return the state of a definition, given what its free names mean."""
    name = missing_name(definition, known)
    if name is not None:
        return "name", name
    try:
        _, big = run_in(definition.body, known)
    except NoType as broken:
        return "path", broken.path
    except LimitExceeded as passed:
        return "limit", passed.limit
    return "good", big


def change_word(before, now):
    """Return the word for how a state has become another one."""
    if before[0] != "good" or now[0] != "good":
        if now[0] == "good":
            return "good"
        return "bad" if before[0] == "good" else "fault"
    if is_instance(before[1], now[1]):
        return "wider"
    return "narrower" if is_instance(now[1], before[1]) else "other"


def place_of(definitions, name):
    """Return the number of the definition with a name, None if there is none."""
    if isinstance(name, str):
        for place, held in enumerate(definitions):
            if held.called == name:
                return place
    return None


def users_of(definitions, name):
    """Return the list of the definitions in which a name means the definition that has it."""
    return [held for held in definitions[place_of(definitions, name) + 1:] if name in held.free]


def can_be_added(definitions, name):
    """Tell whether a value is a name that no definition has."""
    return is_name(name) and place_of(definitions, name) is None


def can_be_renamed(definitions, name, other):
    """Tell whether a definition can get another name in all terms that use it."""
    if place_of(definitions, name) is None or not can_be_added(definitions, other):
        return False
    return not any([other in names_within(held.body) for held in users_of(definitions, name)])


def is_possible(definitions, edit):
    """Tell whether a value is an edit of definitions, whatever its term is."""
    if not isinstance(edit, tuple) or not edit or not isinstance(edit[0], str):
        return False
    if len(edit) != EDIT_SIZES.get(edit[0]):
        return False
    if edit[0] == "add":
        return is_integer_within(edit[1], 0, len(definitions)) and can_be_added(definitions, edit[2])
    if edit[0] == "rename":
        return can_be_renamed(definitions, edit[1], edit[2])
    if place_of(definitions, edit[1]) is None:
        return False
    return edit[0] != "move" or is_integer_within(edit[2], 0, len(definitions) - 1)


class Draft:
    """What an edit makes of definitions: others in their order, which get their states by settle.

    The fresh are the numbers of those that are added or get an unlike term; those in which a name means the renamed
    definition are changed. Typed are the names of those that had to be typed anew.
    """

    def __init__(self, definitions):
        self.before = {held.number: held for held in definitions}
        self.definitions = list(definitions)
        self.fresh = {}
        self.changed = {}
        self.rename = (None, None)
        self.typed = []

    def edit(self, edit, number):
        """Do an edit; an added definition gets the number."""
        if edit[0] == "add":
            self.fresh[number] = True
            self.definitions.insert(edit[1], defined(number, edit[2], copied(edit[3])))
        elif edit[0] == "drop":
            del self.definitions[place_of(self.definitions, edit[1])]
        elif edit[0] == "move":
            held = self.definitions.pop(place_of(self.definitions, edit[1]))
            self.definitions.insert(edit[2], held)
        elif edit[0] == "put":
            self.put(place_of(self.definitions, edit[1]), edit[2])
        else:
            self.call_anew(edit[1], edit[2])

    def put(self, place, term):
        """Give the definition at a place another term, or the same again."""
        held = self.definitions[place]
        if held.body != term:
            self.fresh[held.number] = True
            self.definitions[place] = defined(held.number, held.called, copied(term))

    def call_anew(self, name, other):
        """Give a definition another name, also where it is used."""
        self.rename = (name, other)
        self.changed = {held.number: True for held in users_of(self.definitions, name)}
        for place, held in enumerate(list(self.definitions)):
            if held.number in self.changed:
                self.definitions[place] = defined(held.number, held.called, renamed(held.body, name, other))
            elif held.called == name:
                self.definitions[place] = held.settled(other, held.known, held.found)

    def known_before(self, number):
        """Return what the free names of a definition meant before, by the names that they have now."""
        known = self.before[number].known
        if number not in self.changed:
            return known
        name, other = self.rename
        return {other if held == name else held: big for held, big in known.items()}

    def is_as_before(self, held, known):
        """Tell whether a definition need not be typed anew, given what its free names mean now."""
        return held.number not in self.fresh and known == self.known_before(held.number)

    def settle(self):
        """Find what the free names of the definitions mean, and the states, as far as they can be others."""
        types = {}
        settled = []
        for held in self.definitions:
            known = {name: types.get(name) for name in held.free}
            if not self.is_as_before(held, known):
                self.typed.append(held.called)
                found = state_of(held, known)
            elif missing_name(held, known) is not None:
                found = ("name", missing_name(held, known))
            else:
                found = self.before[held.number].found
            settled.append(held.settled(held.called, known, found))
            if found[0] == "good":
                types[held.called] = found[1]
        self.definitions = settled

    def changes(self):
        """Return the list of tuples (name, word) for the definitions that are new or have another state."""
        found = []
        for held in self.definitions:
            old = self.before.get(held.number)
            if old is None:
                found.append((held.called, "new"))
            elif old.found != held.found:
                found.append((held.called, change_word(old.found, held.found)))
        return found


class Desk:
    """Definitions in an order, each with a name and a term, in which a name means the definition ahead that has it."""

    def __init__(self):
        self.definitions = []
        self.edits = []
        # The definitions as they were ahead of each of the edits.
        self.earlier = []
        # How many definitions have been added, which is the number of the next one.
        self.added = 0

    def __eq__(self, other):
        return isinstance(other, Desk) and self.contents() == other.contents()

    def contents(self):
        """Return the list of the names and terms of the definitions in their order."""
        return [(held.called, held.body) for held in self.definitions]

    def definition(self, name):
        """Return the definition with a name."""
        place = place_of(self.definitions, name)
        if place is None:
            raise InvalidName(name)
        return self.definitions[place]

    def drafted(self, edit):
        """Return the Draft of an edit, unless it cannot be done."""
        if not is_possible(self.definitions, edit):
            raise InvalidCall(edit)
        if edit[0] in ("add", "put"):
            check_term(edit[-1])
        if edit[0] == "add" and len(self.definitions) == MOST_DEFINITIONS:
            raise LimitExceeded(MOST_DEFINITIONS)
        if len(self.edits) == MOST_EDITS:
            raise LimitExceeded(MOST_EDITS)
        draft = Draft(self.definitions)
        draft.edit(edit, self.added)
        draft.settle()
        return draft

    def names(self):
        """Return the list of the names of the definitions in their order."""
        return [held.called for held in self.definitions]

    def term(self, name):
        """Return the term of the definition with a name."""
        return copied(self.definition(name).body)

    def state(self, name):
        """Return the state of the definition with a name: good with its type, or what is wrong with it."""
        word, held = self.definition(name).found
        return (word, Vast(held.rows)) if word == "good" else (word, held)

    def do(self, edit):
        """Do an edit, and return what changes by it: the list of tuples (name, word)."""
        draft = self.drafted(edit)
        self.earlier.append(self.definitions)
        self.edits.append(copied_edit(edit))
        self.definitions = draft.definitions
        self.added += 1
        return draft.changes()

    def users(self, name):
        """Return the list of the names of the definitions that use one."""
        self.definition(name)
        return [held.called for held in users_of(self.definitions, name)]

    def behind(self, name):
        """Return the list of the names of all definitions that depend on one."""
        reached = {self.definition(name).called: True}
        for held in self.definitions[place_of(self.definitions, name) + 1:]:
            if any([other in reached for other in held.free]):
                reached[held.called] = True
        return list(reached)[1:]

    def needed(self, name):
        """Return the list of all definitions on which one depends, in their order."""
        wanted = {other: True for other in self.definition(name).free}
        found = []
        for held in self.definitions[:place_of(self.definitions, name)][::-1]:
            if held.called in wanted:
                found.append(held)
                wanted.update({other: True for other in held.free})
        return found[::-1]

    def needs(self, name):
        """Return the list of the names of all definitions on which one depends."""
        return [held.called for held in self.needed(name)]

    def looked(self, edit):
        """Return the list of the names of the definitions that have to be typed anew by an edit, which is not done."""
        return self.drafted(edit).typed

    def whole(self, name):
        """Return the term of a good definition with all definitions that it needs around it as lets."""
        if self.definition(name).found[0] != "good":
            raise InvalidName(name)
        term = self.definition(name).body
        for held in self.needed(name)[::-1]:
            term = ("let", held.called, held.body, term)
        check_term(term)
        return copied(term)

    def log(self):
        """Return the list of the edits that have been done and not undone."""
        return [copied_edit(edit) for edit in self.edits]

    def undo(self, count):
        """Take back the last so many edits."""
        if not is_integer_within(count, 0, len(self.edits)):
            raise InvalidBound("count")
        if count > 0:
            self.definitions = self.earlier[-count]
            del self.earlier[-count:]
            del self.edits[-count:]


def replay(log):
    """Return a Desk in which the edits of a list have been done."""
    if not isinstance(log, list) or len(log) > MOST_EDITS:
        raise InvalidBound("log")
    desk = Desk()
    for edit in log:
        desk.do(edit)
    return desk
