"""Points 61 to 67: definitions in order."""

import copy
import random
import unittest

from samples import (IDENTITY, INT, X, Y, circles_ahead_of_clashes, fault, many_names, nested, no_integers, no_lists,
                     no_names, no_nodes, of, other_values, random_program, sized, text_of, under)
from vasttypes import desks
from vasttypes.desks import Desk, replay
from vasttypes.errors import (InvalidBound, InvalidCall, InvalidName, InvalidTerm, LimitExceeded, NoType, VastError)
from vasttypes.graphs import towers
from vasttypes.inference import infer, infer_in
from vasttypes.order import is_instance
from vasttypes.terms import check_term, free_names, paths, term_at
from vasttypes.termtexts import read_term

TWO = ("fun", "x", ("tuple", [X, X]))
FOUR = ("fun", "y", ("app", ("var", "two"), ("app", ("var", "two"), Y)))


def call_fault(desk, edit):
    """Return the error that an edit raises, and check that it is the same for looked, and that nothing changes."""
    before = (desk.names(), repr(desk.log()))
    found = []
    for method in (desk.looked, desk.do):
        try:
            method(edit)
            found.append(None)
        except InvalidCall as error:
            found.append(("call", error.call is edit))
        except VastError as error:
            found.append((type(error), list(vars(error).values())[0]))
    assert found[0] == found[1] and before == (desk.names(), repr(desk.log()))
    return found[0]


def example():
    desk = Desk()
    desk.do(("add", 0, "two", copy.deepcopy(TWO)))
    desk.do(("add", 1, "four", copy.deepcopy(FOUR)))
    return desk


def desk_of(*texts):
    """Return a desk with definitions: names, and texts of terms."""
    desk = Desk()
    for number in range(0, len(texts), 2):
        desk.do(("add", number // 2, texts[number], read_term(texts[number + 1])))
    return desk


def uses_in_order(term):
    """Return the list of the free names of a term in the order in which they occur."""
    found = []
    for path in paths(term):
        node = term_at(term, path)
        if node[0] == "var" and not any(binds(term, path[:many], path[many], node[1]) for many in range(len(path))):
            found.append(node[1])
    return found


def binds(term, path, step, name):
    around = term_at(term, path)
    return around[0] in ("fun", "let", "rec") and around[1] == name and (around[0] != "let" or step == 1)


class Plain:
    """The states of definitions, worked out anew each time."""

    def __init__(self, rows=()):
        self.rows = list(rows)

    def states(self):
        types, found = {}, {}
        for name, term, _ in self.rows:
            found[name] = self.state(term, types)
            if found[name][0] == "good":
                types[name] = found[name][1]
        return found

    def state(self, term, types):
        for name in uses_in_order(term):
            if name not in types:
                return ("name", name)
        try:
            return ("good", infer_in(term, types))
        except NoType as error:
            return ("path", error.path)
        except LimitExceeded:
            return ("limit", 1000)

    def means(self):
        """Return what each definition's free names mean, as a dict of the types of good ones."""
        states, ahead, found = self.states(), {}, {}
        for name, term, key in self.rows:
            found[key] = {use: ahead[use] for use in free_names(term) if use in ahead}
            if states[name][0] == "good":
                ahead[name] = states[name][1]
        return found

    def users(self, name):
        place = [row[0] for row in self.rows].index(name)
        return [other for other, term, _ in self.rows[place + 1:] if name in free_names(term)]

    def edited(self, edit, key):
        """Return the definitions behind an edit that can be done."""
        rows = list(self.rows)
        names = [name for name, _, _ in rows]
        if edit[0] == "add":
            rows.insert(edit[1], (edit[2], edit[3], key))
            return Plain(rows)
        place = names.index(edit[1])
        if edit[0] == "drop":
            del rows[place]
        elif edit[0] == "put":
            rows[place] = (edit[1], edit[2], rows[place][2])
        elif edit[0] == "move":
            rows.insert(edit[2], rows.pop(place))
        else:
            users = self.users(edit[1])
            rows = [(edit[2] if name == edit[1] else name, with_name(term, edit[1], edit[2]) if name in users else term, own)
                    for name, term, own in rows]
        return Plain(rows)

    def can_be_done(self, edit):
        names = [name for name, _, _ in self.rows]
        if edit[0] == "add":
            return edit[2] not in names and edit[1] <= len(names)
        if edit[1] not in names:
            return False
        if edit[0] == "rename":
            terms = [term for name, term, _ in self.rows if name in self.users(edit[1])]
            return edit[2] not in names and not any(repr(edit[2]) in repr(term) for term in terms)
        return edit[0] != "move" or edit[2] < len(names)


def with_name(term, name, other):
    """Return a term with another name where a name is free."""
    if name not in free_names(term):
        return term
    if term[0] == "var":
        return ("var", other)
    if term[0] in ("tuple", "record"):
        return (term[0], [with_name(held, name, other) if isinstance(held[0], str) and term[0] == "tuple" else
                          (held[0], with_name(held[1], name, other)) for held in term[1]])
    found, step = [], 0
    for held in term:
        if isinstance(held, tuple):
            hidden = term[0] in ("fun", "rec") and term[1] == name or term[0] == "let" and term[1] == name and step == 1
            found.append(held if hidden else with_name(held, name, other))
            step += 1
        else:
            found.append(held)
    return tuple(found)


def word_of(before, now):
    if before[0] == now[0] == "good":
        wide, narrow = is_instance(before[1], now[1]), is_instance(now[1], before[1])
        return "wider" if wide else "narrower" if narrow else "other"
    return "good" if now[0] == "good" else "bad" if before[0] == "good" else "fault"


class Walk(unittest.TestCase):
    """Many edits, each compared with what follows from the definitions alone."""

    def edit(self, source, names):
        have = list(names) or ["a"]
        name = source.choice(have + ["zz"])
        term = random_program(source, source.randint(1, 5), tuple(source.sample(have, min(3, len(have)))) + ("b",))
        if source.random() < 0.6:
            term = read_term(source.choice(["( fun x . x )", "( fun x . ( if true then x else 1 ) )", "1", "( fun x . x )",
                                            "( fun x . ( if true then x else 1 ) )", "( fun x . 1 )",
                                            "( fun x . ( fun y . x ) )", "( a 1 )", "( b , c )", "a", "b", "( fun x . ( d x ) )"]))
        other = source.choice(["a", "b", "c", "d", "e", "f", "g", "h", "i", "j"])
        return source.choice([("add", source.randint(0, len(names)), other, term), ("put", name, term),
                              ("put", name, term), ("put", name, term), ("add", len(names), other, term), ("move", name, source.randint(0, len(have))),
                              ("rename", name, other), ("rename", name, other)] + [("drop", name)] * (len(names) > 5))

    def test_random_edits(self):
        words, states, renamed = set(), set(), 0
        for seed in range(20):
            source = random.Random(seed)
            desk, plain, history = Desk(), Plain(), []
            for key in range(70):
                edit = self.edit(source, desk.names())
                if any(fault(check_term, held) for held in edit if isinstance(held, tuple)):
                    continue
                if not plain.can_be_done(edit):
                    self.assertEqual(call_fault(desk, edit), ("call", True))
                    continue
                after = plain.edited(edit, key)
                looked, changes = self.expected(plain, after, edit)
                self.assertEqual(desk.looked(edit), looked, edit)
                self.assertEqual(desk.do(edit), changes, edit)
                self.assertEqual(desk.log()[-1], edit)
                history.append(plain)
                plain = after
                words |= {word for _, word in changes}
                renamed += edit[0] == "rename"
                states |= {state[0] for state in plain.states().values()}
                self.compare(desk, plain)
                if source.random() < 0.1:
                    count = source.randint(0, min(3, len(history)))
                    self.assertIsNone(desk.undo(count))
                    plain = history[len(history) - count] if count else plain
                    del history[len(history) - count:]
                    self.compare(desk, plain)
            self.assertTrue(replay(desk.log()) == desk)
        self.assertEqual(words, {"new", "wider", "narrower", "other", "good", "bad", "fault"})
        self.assertEqual(states, {"good", "name", "path"})
        self.assertGreater(renamed, 20)

    def expected(self, before, after, edit):
        """Return what looked and do must return."""
        old_states = {key: before.states()[name] for name, _, key in before.rows}
        old_terms = {key: term for _, term, key in before.rows}
        old_means, new_means = before.means(), after.means()
        users = before.users(edit[1]) if edit[0] == "rename" else []
        changed = {key for name, _, key in before.rows if name in users}
        looked, changes = [], []
        for name, term, key in after.rows:
            if key not in old_states:
                looked.append(name)
                changes.append((name, "new"))
                continue
            means = {edit[2] if key in changed and use == edit[1] else use: big for use, big in old_means[key].items()}
            now = after.states()[name]
            if means != new_means[key] or (edit[0] == "put" and edit[1] == name and old_terms[key] != term):
                looked.append(name)
            elif edit[0] != "rename" or now[0] != "name":
                self.assertEqual(now, old_states[key])
            if now != old_states[key]:
                changes.append((name, word_of(old_states[key], now)))
        return looked, changes

    def compare(self, desk, plain):
        names = [name for name, _, _ in plain.rows]
        self.assertEqual(desk.names(), names)
        states = plain.states()
        for place, (name, term, _) in enumerate(plain.rows):
            self.assertEqual(desk.term(name), term)
            self.assertTrue(desk.state(name) == states[name], (desk.state(name), states[name]))
            users = plain.users(name)
            self.assertEqual(desk.users(name), users)
            behind = {name}
            for other in names[place + 1:]:
                if any(other in plain.users(held) for held in behind):
                    behind.add(other)
            self.assertEqual(desk.behind(name), [other for other in names if other in behind - {name}])
            self.assertEqual(desk.needs(name), [other for other in names[:place] if name in self.dependents(plain, other)])
            if states[name][0] != "good":
                with self.assertRaises(InvalidName):
                    desk.whole(name)
                continue
            whole = term
            for other in desk.needs(name)[::-1]:
                whole = ("let", other, dict((row[0], row[1]) for row in plain.rows)[other], whole)
            if fault(check_term, whole) is None:
                self.assertEqual(desk.whole(name), whole)
                self.assertTrue(infer(whole) == states[name][1])
            else:
                self.assertEqual(fault(desk.whole, name), fault(check_term, whole))

    def dependents(self, plain, name):
        found, waiting = set(), [name]
        while waiting:
            for other in plain.users(waiting.pop()):
                if other not in found:
                    found.add(other)
                    waiting.append(other)
        return found


class Examples(unittest.TestCase):
    def test_document(self):
        desk = example()
        word, big = desk.state("four")
        self.assertEqual([word, text_of(big)], ["good", "'a -> ('a * 'a) * ('a * 'a)"])
        self.assertEqual([desk.names(), desk.needs("four"), desk.users("two"), desk.behind("two")],
                         [["two", "four"], ["two"], ["four"], ["four"]])
        self.assertEqual(desk.looked(("put", "two", ("fun", "z", ("tuple", [("var", "z"), ("var", "z")])))), ["two"])
        self.assertEqual(desk.whole("four")[:2], ("let", "two"))
        self.assertEqual(desk.do(("put", "two", IDENTITY)), [("two", "other"), ("four", "other")])

    def test_states(self):
        desk = desk_of("a", "( 1 1 )", "b", "( a , c )", "c", "1", "d", "( c , ( d , b ) )", "e", "( fun x . ( x x ) )",
                       "f", "( c , c )", "g", "g")
        self.assertEqual([desk.state(name) for name in "abde"], [("path", ()), ("name", "a"), ("name", "d"), ("path", (0,))])
        self.assertEqual([desk.state("g"), text_of(desk.state("f")[1]), text_of(desk.state(name="c")[1])],
                         [("name", "g"), "int * int", "int"])
        self.assertEqual(desk.do(("move", "c", 0)), [])
        self.assertEqual(desk.do(("put", "a", ("int", 1))), [("a", "good"), ("b", "good")])
        self.assertEqual(desk.do(("move", "c", 6)), [("b", "bad"), ("d", "fault"), ("f", "bad")])
        self.assertEqual([desk.state(name) for name in "bdf"], [("name", "c")] * 3)

    def test_path_state(self):
        for term, path in circles_ahead_of_clashes()[:60]:
            desk = Desk()
            self.assertEqual(desk.do(("add", 0, "a", term)), [("a", "new")])
            self.assertEqual(desk.state("a"), ("path", path))

    def test_limit_state(self):
        many = many_names(60)
        desk = Desk()
        desk.do(("add", 0, many[0], ("fun", "x", X)))
        grow = "( fun x . ( x , ( x , x ) ) )"
        desk.do(("add", 1, "grow", read_term(grow)))
        previous = "grow"
        for number, name in enumerate(["ba", "bb", "bc", "bd", "be", "bf", "bg", "bh", "bi"]):
            desk.do(("add", number + 2, name, read_term(f"( fun x . ( {previous} ( {previous} x ) ) )")))
            previous = name
        states = [desk.state(name)[0] for name in desk.names()]
        self.assertEqual(states, ["good"] * 10 + ["limit"])
        self.assertEqual(desk.state("bi"), ("limit", 1000))
        desk.do(("add", 11, "user", ("var", "bi")))
        self.assertEqual(desk.state("user"), ("name", "bi"))
        self.assertEqual(desk.do(("put", "grow", IDENTITY))[-2:], [("bi", "good"), ("user", "good")])

    def test_words(self):
        desk = desk_of("f", "( fun x . x )", "g", "( f , 1 )", "h", "( f true )")
        for term, expected in (("( fun x . ( if true then x else 1 ) )", [("f", "narrower"), ("g", "narrower"), ("h", "bad")]),
                               ("( fun x . x )", [("f", "wider"), ("g", "wider"), ("h", "good")]),
                               ("( fun y . y )", []), ("( fun x . 1 )", [("f", "other"), ("g", "other"), ("h", "other")]),
                               ("1", [("f", "other"), ("g", "other"), ("h", "bad")]), ("2", []),
                               ("q", [("f", "bad"), ("g", "bad"), ("h", "fault")]), ("( 1 q )", []),
                               ("( 1 1 )", [("f", "fault")]), ("( 1 ( 1 1 ) )", [("f", "fault")]),
                               ("( fun x . x )", [("f", "good"), ("g", "good"), ("h", "good")])):
            self.assertEqual(desk.do(("put", "f", read_term(term))), expected, term)

    def test_where_a_type_stays_the_same(self):
        desk = desk_of("a", "1", "b", "( a , a )", "c", "( b , a )", "d", "( 0 of 2 c )")
        self.assertEqual(desk.looked(("put", "a", ("int", 2))), ["a"])
        self.assertEqual(desk.looked(("put", "a", ("int", 1))), [])
        self.assertEqual(desk.looked(("put", "a", ("bool", True))), ["a", "b", "c", "d"])
        self.assertEqual(desk.looked(("put", "b", read_term("( a , true )"))), ["b", "c", "d"])
        self.assertEqual(desk.looked(("put", "c", read_term("( b , true )"))), ["c", "d"])
        self.assertEqual(desk.do(("put", "c", read_term("( b , true )"))), [("c", "other")])
        self.assertEqual(desk.looked(("drop", "a")), ["b", "c", "d"])
        self.assertEqual(desk.looked(("add", 0, "z", ("int", 1))), ["z"])
        self.assertEqual(desk.looked(("rename", "a", "z")), [])
        self.assertEqual(desk.looked(("move", "a", 3)), ["b", "c", "d"])
        # Another definition with the same type takes the place of one that was there.
        desk = desk_of("a", "1", "b", "a")
        self.assertEqual(desk.do(("drop", "a")), [("b", "bad")])
        self.assertEqual(desk.do(("add", 1, "a", ("int", 5))), [("a", "new")])
        self.assertEqual(desk.looked(("move", "a", 0)), ["b"])

    def test_renames(self):
        desk = desk_of("a", "( fun b . b )", "b", "( ( fun a . a ) ( a , ( let a = a in ( a , x ) ) ) )", "c",
                       "( let c = ( rec a = ( fun x . a ) in 1 ) in { a = ( a . a ) } )", "d", "( fun a . a )", "e", "z")
        self.assertEqual(call_fault(desk, ("rename", "a", "c")), ("call", True))
        self.assertEqual(call_fault(desk, ("rename", "a", "x")), ("call", True))
        self.assertEqual(desk.do(("rename", "a", "z")), [("b", "fault")][:0] + [("c", "bad")][:0] + [("e", "good")])
        self.assertEqual(desk.term("b"), read_term("( ( fun a . a ) ( z , ( let a = z in ( a , x ) ) ) )"))
        self.assertEqual(desk.term("c"), read_term("( let c = ( rec a = ( fun x . a ) in 1 ) in { a = ( z . a ) } )"))
        self.assertEqual([desk.term("a") if "a" in desk.names() else None, desk.term("d")], [None, read_term("( fun a . a )")])
        self.assertEqual(desk.names(), ["z", "b", "c", "d", "e"])
        # A name ahead of the definition does not mean it.
        desk = desk_of("p", "q", "q", "( 1 1 )", "r", "( q q )")
        self.assertEqual(desk.do(("rename", "q", "s")), [("r", "fault")])
        self.assertEqual([desk.term("p"), desk.term("r"), desk.state("r")], [("var", "q"), read_term("( s s )"), ("name", "s")])
        self.assertEqual(desk.looked(("rename", "s", "q")), [])

    def test_own_names(self):
        desk = desk_of("a", "a", "b", "( fun b . ( b , a ) )", "c", "( let b = 1 in b )")
        self.assertEqual([desk.state("a"), desk.state("b"), desk.users("a"), desk.needs("a"), desk.behind("a")],
                         [("name", "a"), ("name", "a"), ["b"], [], ["b"]])
        self.assertEqual(desk.users("b"), [])

    def test_whole(self):
        desk = desk_of("a", "1", "x", "2", "b", "( fun x . ( a , x ) )", "c", "( ( b a ) , ( fun b . b ) )")
        self.assertEqual(desk.whole("c"), read_term("( let a = 1 in ( let b = ( fun x . ( a , x ) ) in "
                                                    "( ( b a ) , ( fun b . b ) ) ) )"))
        self.assertEqual(desk.whole(name="a"), ("int", 1))
        desk = Desk()
        desk.do(("add", 0, "a", sized_good(200)))
        desk.do(("add", 1, "b", ("tuple", [("var", "a"), sized_good(196)])))
        self.assertEqual(len(paths(desk.whole("b"))), 399)
        desk.do(("put", "b", ("tuple", [("var", "a"), sized_good(198)])))
        self.assertEqual(fault(desk.whole, "b"), (LimitExceeded, 400))
        desk = Desk()
        desk.do(("add", 0, "a", under(98, ("int", 1))))
        desk.do(("add", 1, "b", ("var", "a")))
        self.assertEqual(len(desk.whole("b")), 4)
        desk.do(("put", "a", under(99, ("int", 1))))
        self.assertEqual(fault(desk.whole, "b"), (LimitExceeded, 100))
        for name in ["c", "q", ""] + no_names():
            self.assertEqual(fault(desk.whole, name)[0], InvalidName)
        desk.do(("put", "a", ("app", ("int", 1), ("int", 1))))
        for name in ("a", "b"):
            self.assertEqual(fault(desk.whole, name), (InvalidName, name))


def sized_good(count):
    """Return a term with so many nodes that has a type."""
    if count == 1:
        return ("int", 1)
    if count == 2:
        return ("fun", "x", ("int", 1))
    left = (count - 1) // 2
    return ("tuple", [sized_good(left), sized_good(count - 1 - left)])


class Wrong(unittest.TestCase):
    def test_forms(self):
        desk = example()
        one = ("int", 1)
        wrong = [[], (), ("add",), ("add", 0, "x"), ("add", 0, "x", one, one), ["add", 0, "x", one], ("drop",),
                 ("drop", "two", "four"), ("put", "two"), ("put", "two", one, one), ("move", "two"), ("move", "two", 0, 0),
                 ("rename", "two"), ("rename", "two", "x", "y"), ("Add", 0, "x", one), (b"add", 0, "x", one),
                 (["add"], 0, "x", one), (None,), "add", "drop", {"drop": "two"}, None, 1, ("undo", 1), ("look", "two"),
                 (("drop", "two"),), ("", "two"), ("dropped", "two")]
        for edit in wrong + other_values():
            self.assertEqual(call_fault(desk, edit), ("call", True))
        for value in no_names() + ["three", "tw", "Two"]:
            for edit in (("drop", value), ("put", value, one), ("put", value, None), ("move", value, 0), ("rename", value, "x")):
                self.assertEqual(call_fault(desk, edit), ("call", True))
        for value in no_names() + ["two", "four"]:
            self.assertEqual(call_fault(desk, ("add", 0, value, one)), ("call", True))
            self.assertEqual(call_fault(desk, ("rename", "four", value)), ("call", True))
        for value in [-1, 3, 10 ** 30] + no_integers():
            self.assertEqual(call_fault(desk, ("add", value, "x", one)), ("call", True))
            self.assertEqual(call_fault(desk, ("add", value, "x", None)), ("call", True))
        for value in [-1, 2, 10 ** 30] + no_integers():
            self.assertEqual(call_fault(desk, ("move", "two", value)), ("call", True))
        for other in ("y", "two", "four", "x"):
            expected = None if other == "x" else ("call", True)
            if expected is not None:
                self.assertEqual(call_fault(desk, ("rename", "two", other)), expected)
        self.assertEqual(call_fault(desk, nested(2000, lambda held: ("drop", held), "two")), ("call", True))
        desk.do(("rename", "two", "x"))
        self.assertEqual(desk.names(), ["x", "four"])

    def test_terms(self):
        desk = example()
        for value in no_nodes()[:40]:
            for edit in (("add", 2, "x", value), ("put", "two", value)):
                self.assertEqual(call_fault(desk, edit), (InvalidTerm, ()))
        for edit in (("add", 0, "x", under(100, X)), ("put", "four", nested(2000, lambda held: ("fun", "x", held)))):
            self.assertEqual(call_fault(desk, edit), (LimitExceeded, 100))
        self.assertEqual(call_fault(desk, ("put", "two", sized(401))), (LimitExceeded, 400))
        self.assertEqual(call_fault(desk, ("put", "two", ("app", X, ("int", True)))), (InvalidTerm, (1,)))

    def test_names(self):
        desk = example()
        for value in no_names() + ["three", "tw"]:
            for method in (desk.term, desk.state, desk.users, desk.behind, desk.needs, desk.whole):
                with self.assertRaises(InvalidName) as caught:
                    method(value)
                self.assertTrue(caught.exception.name is value)

    def test_many_definitions(self):
        desk = Desk()
        for number, name in enumerate(many_names(100)):
            desk.do(("add", number, name, ("int", number)))
        self.assertEqual(call_fault(desk, ("add", 0, "zz", ("int", 1))), (LimitExceeded, 100))
        self.assertEqual(call_fault(desk, ("add", 0, "zz", ("int", True))), (InvalidTerm, ()))
        self.assertEqual(call_fault(desk, ("add", 101, "zz", ("int", True))), ("call", True))
        for k in range(900):
            desk.do(("put", "aa", ("int", k)))
        self.assertEqual(call_fault(desk, ("put", "aa", ("int", 7))), (LimitExceeded, 1000))
        self.assertEqual(call_fault(desk, ("add", 0, "zz", ("int", 1))), (LimitExceeded, 100))
        self.assertEqual(call_fault(desk, ("drop", "zz")), ("call", True))
        self.assertEqual(call_fault(desk, ("put", "aa", None)), (InvalidTerm, ()))
        log = desk.log()
        self.assertEqual(len(log), 1000)
        self.assertTrue(replay(log) == desk)
        desk.undo(1)
        self.assertEqual(desk.do(("drop", "aa")), [])
        self.assertEqual(call_fault(desk, ("drop", "ab")), (LimitExceeded, 1000))


class Undone(unittest.TestCase):
    def test_undo(self):
        desk = example()
        self.assertIsNone(desk.undo(0))
        desk.do(("put", "two", IDENTITY))
        desk.do(("rename", "two", "same"))
        desk.do(("drop", "same"))
        self.assertEqual(desk.state("four"), ("name", "same"))
        desk.undo(1)
        self.assertEqual([desk.names(), text_of(desk.state("four")[1])], [["same", "four"], "'a -> 'a"])
        desk.undo(count=2)
        self.assertTrue(desk == example())
        self.assertEqual(text_of(desk.state("four")[1]), "'a -> ('a * 'a) * ('a * 'a)")
        self.assertEqual(len(desk.log()), 2)
        desk.do(("move", "four", 0))
        self.assertEqual([edit[0] for edit in desk.log()], ["add", "add", "move"])
        for count in [-1, 4, 10 ** 30] + no_integers():
            self.assertEqual(fault(desk.undo, count), (InvalidBound, "count"))
        desk.undo(3)
        self.assertEqual([desk.names(), desk.log(), desk == Desk()], [[], [], True])
        self.assertEqual(fault(desk.undo, 1), (InvalidBound, "count"))

    def test_replay(self):
        desk = example()
        desk.do(("put", "two", IDENTITY))
        self.assertTrue(replay(log=desk.log()) == desk)
        self.assertTrue(replay([]) == Desk())
        log = desk.log()
        self.assertEqual(len(replay(log).log()), 3)
        edit = ("drop", "none")
        with self.assertRaises(InvalidCall) as caught:
            replay(log[:2] + [edit, None])
        self.assertTrue(caught.exception.call is edit)
        self.assertEqual(fault(replay, [("add", 0, "x", None), None]), (InvalidTerm, ()))
        for value in no_lists() + [("add", 0, "x", X), [None] * 1001, desk]:
            self.assertEqual(fault(replay, value), (InvalidBound, "log"))
        with self.assertRaises(InvalidCall):
            replay([None] * 1000)


class Objects(unittest.TestCase):
    def test_equality(self):
        one, other = example(), Desk()
        other.do(("add", 0, "four", FOUR))
        self.assertFalse(one == other)
        other.do(("add", 0, "two", TWO))
        self.assertTrue(one == other and not one != other)
        other.do(("rename", "two", "tow"))
        self.assertFalse(one == other)
        other.undo(1)
        self.assertTrue(one == other)
        other.do(("put", "two", ("fun", "x", ("tuple", [X, X, X]))))
        self.assertTrue(one != other)
        for value in [None, 1, "two", [], ["two", "four"], one.names(), one.log(), towers(1), INT] + other_values():
            self.assertTrue(one != value and value != one)
        self.assertTrue(Desk() == Desk() and Desk() != example())

    def test_two_desks(self):
        one, other = example(), example()
        one.do(("drop", "two"))
        self.assertEqual([one.names(), other.names(), len(other.log())], [["four"], ["two", "four"], 2])

    def test_later_changes(self):
        items = [X, X]
        fields = [("a", ("tuple", items))]
        term = ("fun", "x", ("record", fields))
        desk = Desk()
        edit = ("add", 0, "r", term)
        desk.do(edit)
        desk.do(("put", "r", term))
        before = repr(desk.term("r"))
        items.append(("int", 1))
        fields.append(("b", X))
        self.assertEqual(repr(desk.term("r")), before)
        self.assertEqual([repr(held[-1]) for held in desk.log()], [before] * 2)
        for found in (desk.term("r"), desk.log()[0][-1], desk.log()[1][-1], desk.whole("r")):
            found[2][1][0][1][1].append(None)
            found[2][1].clear()
        desk.names().append("q")
        desk.log().clear()
        for method in (desk.users, desk.behind, desk.needs):
            method("r").append("q")
            self.assertEqual(method("r"), [])
        self.assertEqual([repr(desk.term("r")), repr(desk.whole("r")), len(desk.log())], [before, before, 2])
        self.assertEqual(repr(desk.log()[0][-1]), before)
        self.assertEqual(text_of(desk.state("r")[1]), "'a -> {a: 'a * 'a}")

    def test_arguments(self):
        desk = Desk()
        edit = ("add", 0, "two", copy.deepcopy(TWO))
        kept = repr(edit)
        self.assertEqual([desk.looked(edit=edit), desk.do(edit=edit), desk.looked(edit=("drop", "two"))],
                         [["two"], [("two", "new")], []])
        self.assertEqual([repr(edit), desk.term(name="two"), desk.users(name="two"), desk.behind(name="two"),
                          desk.needs(name="two")], [kept, TWO, [], [], []])

    def test_places(self):
        self.assertEqual([Desk.__module__, replay.__module__], ["vasttypes.desks"] * 2)
        self.assertEqual(desks.replay([]).names(), [])
        for name in ("names", "term", "state", "do", "users", "behind", "needs", "looked", "whole", "log", "undo"):
            self.assertIn(name, vars(Desk))


class Large(unittest.TestCase):
    def test_chain_of_large_types(self):
        names = many_names(100)
        desk = Desk()
        desk.do(("add", 0, names[0], ("int", 1)))
        for number in range(1, 100):
            last = ("var", names[number - 1])
            desk.do(("add", number, names[number], ("tuple", [last, last])))
        self.assertEqual(desk.state(names[99])[1].tree_size(), 2 ** 100 - 1)
        for k in range(10):
            changed = desk.do(("put", names[0], ("bool", True) if k % 2 == 0 else ("int", 1)))
            self.assertEqual(changed, [(name, "other") for name in names])
        self.assertEqual(desk.looked(("put", names[0], ("int", 2))), [names[0]])
        self.assertEqual(len(desk.needs(names[99])), 99)
        self.assertEqual(desk.behind(names[0]), names[1:])
        self.assertEqual(fault(desk.whole, names[99]), (LimitExceeded, 100))
        self.assertTrue(of("int") == desk.state(names[0])[1])


if __name__ == "__main__":
    unittest.main()
