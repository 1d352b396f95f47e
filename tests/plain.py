"""Small types and the types of small terms, found in a plain way: on trees, and by recursion.

The trees are those of the document, but any numbers can be marks, and no mark is used twice.
"""

from vasttypes.trees import renumbered

INT, BOOL = ("int",), ("bool",)


class Clash(Exception):
    """Two types have no common instance."""


class NoPlainType(Exception):
    """A term has no type; path leads to the first node at which this shows."""

    def __init__(self, path):
        self.path = path


class Store:
    """What variables and tails have become: a tree, or a tuple (fields, tail)."""

    def __init__(self):
        self.bound = {}
        self.count = 0

    def mark(self):
        self.count += 1
        return self.count

    def variable(self):
        return ("var", self.mark())

    def whole(self, tree):
        """Return a tree with all that its variables and tails have become."""
        if tree[0] == "var":
            return self.whole(self.bound[tree[1]]) if tree[1] in self.bound else tree
        if tree[0] == "record":
            fields, tail = self.record(tree)
            return ("record", [(name, self.whole(inner)) for name, inner in sorted(fields.items())], tail)
        if tree[0] == "tuple":
            return ("tuple", [self.whole(item) for item in tree[1]])
        return (tree[0], *[self.whole(inner) for inner in tree[1:]])

    def record(self, tree):
        """Return the dict of all fields of a record, and its last tail."""
        fields, tail = dict(tree[1]), tree[2]
        while tail in self.bound:
            more, tail = self.bound[tail]
            fields.update(more)
        return fields, tail

    def bind(self, mark, value, trees):
        """Let a mark become something of which the trees are a part."""
        if any(mark in marks_within(self.whole(tree)) for tree in trees):
            raise Clash
        self.bound[mark] = value

    def unify(self, one, other):
        while one[0] == "var" and one[1] in self.bound:
            one = self.bound[one[1]]
        while other[0] == "var" and other[1] in self.bound:
            other = self.bound[other[1]]
        if one[0] == "var":
            if one != other:
                self.bind(one[1], other, [other])
        elif other[0] == "var":
            self.bind(other[1], one, [one])
        elif one[0] != other[0]:
            raise Clash
        elif one[0] == "record":
            self.unify_records(one, other)
        else:
            inner, others = (one[1], other[1]) if one[0] == "tuple" else (one[1:], other[1:])
            if len(inner) != len(others):
                raise Clash
            for left, right in zip(inner, others):
                self.unify(left, right)

    def unify_records(self, one, other):
        fields, tail = self.record(one)
        others, end = self.record(other)
        lacking = {name: inner for name, inner in others.items() if name not in fields}
        too_many = {name: inner for name, inner in fields.items() if name not in others}
        if tail is None and lacking or end is None and too_many:
            raise Clash
        if tail != end:
            new = None if tail is None or end is None else self.mark()
            if tail is not None:
                self.bind(tail, (lacking, new), list(lacking.values()))
            if end is not None:
                self.bind(end, (too_many, new), list(too_many.values()))
        for name, inner in fields.items():
            if name in others:
                self.unify(inner, others[name])

    def copied(self, tree, fixed=()):
        """Return a tree with new marks but for the fixed ones, which may have become something."""
        return with_marks(tree, {}, fixed, self)


def marks_within(tree):
    if tree[0] == "var":
        return {tree[1]}
    if tree[0] == "record":
        return {mark for _, inner in tree[1] for mark in marks_within(inner)} | ({tree[2]} - {None})
    return {mark for inner in (tree[1] if tree[0] == "tuple" else tree[1:]) for mark in marks_within(inner)}


def with_marks(tree, marks, fixed, store):
    def new(mark):
        if mark in fixed or mark is None:
            return mark
        if mark not in marks:
            marks[mark] = store.mark()
        return marks[mark]
    if tree[0] == "var":
        return ("var", new(tree[1]))
    if tree[0] == "tuple":
        return ("tuple", [with_marks(item, marks, fixed, store) for item in tree[1]])
    if tree[0] == "record":
        return ("record", [(name, with_marks(inner, marks, fixed, store)) for name, inner in tree[1]], new(tree[2]))
    return (tree[0], *[with_marks(inner, marks, fixed, store) for inner in tree[1:]])


def numbered(tree):
    """Return a tree with its marks numbered as the document does, whatever they were."""
    marks = sorted(marks_within(tree))
    table = {mark: k for k, mark in enumerate(marks)}

    def small(inner):
        if inner[0] == "var":
            return ("var", table[inner[1]])
        if inner[0] == "tuple":
            return ("tuple", [small(item) for item in inner[1]])
        if inner[0] == "record":
            return ("record", [(name, small(held)) for name, held in inner[1]], table.get(inner[2]))
        return (inner[0], *[small(held) for held in inner[1:]])
    return renumbered(small(tree))


def common(trees):
    """Return the renumbered common instance of trees, None if there is none."""
    store = Store()
    copies = [store.copied(tree) for tree in trees]
    try:
        for tree in copies[1:]:
            store.unify(copies[0], tree)
    except Clash:
        return None
    return numbered(store.whole(copies[0]))


class Typing:
    """The types of the nodes of a term, and of its definitions."""

    def __init__(self, term, library=None):
        self.store = Store()
        self.types = {}
        self.definitions = []
        names = {name: ("many", self.store.copied(tree), ()) for name, tree in (library or {}).items()}
        self.type_of(term, (), names, [])

    def unify(self, path, one, other):
        try:
            self.store.unify(one, other)
        except Clash:
            raise NoPlainType(path) from None

    def type_of(self, term, path, names, around):
        found = getattr(self, "of_" + term[0])(term, path, names, around)
        self.types[path] = found
        return found

    def inner(self, term, step, path, names, around):
        return self.type_of(term, path + (step,), names, around)

    def of_int(self, term, path, names, around):
        return INT

    def of_bool(self, term, path, names, around):
        return BOOL

    def of_var(self, term, path, names, around):
        how, tree, fixed = names[term[1]]
        return tree if how == "one" else self.store.copied(tree, fixed)

    def of_fun(self, term, path, names, around):
        taken = self.store.variable()
        names = {**names, term[1]: ("one", taken, ())}
        return ("fun", taken, self.inner(term[2], 0, path, names, around + [taken]))

    def of_app(self, term, path, names, around):
        function = self.inner(term[1], 0, path, names, around)
        taken = self.inner(term[2], 1, path, names, around)
        result = self.store.variable()
        self.unify(path, function, ("fun", taken, result))
        return result

    def defined(self, path, tree, around):
        fixed = set()
        for other in around:
            fixed |= marks_within(self.store.whole(other))
        self.definitions.append((path, numbered(self.store.whole(tree))))
        return ("many", self.store.whole(tree), fixed)

    def of_let(self, term, path, names, around):
        tree = self.inner(term[2], 0, path, names, around)
        return self.inner(term[3], 1, path, {**names, term[1]: self.defined(path, tree, around)}, around)

    def of_rec(self, term, path, names, around):
        own = self.store.variable()
        tree = self.inner(term[2], 0, path, {**names, term[1]: ("one", own, ())}, around + [own])
        self.unify(path + (0,), own, tree)
        return self.inner(term[3], 1, path, {**names, term[1]: self.defined(path, tree, around)}, around)

    def of_if(self, term, path, names, around):
        test, first, second = [self.inner(term[step + 1], step, path, names, around) for step in range(3)]
        self.unify(path, test, BOOL)
        self.unify(path, first, second)
        return second

    def of_tuple(self, term, path, names, around):
        return ("tuple", [self.inner(item, step, path, names, around) for step, item in enumerate(term[1])])

    def of_part(self, term, path, names, around):
        items = [self.store.variable() for _ in range(term[2])]
        self.unify(path, self.inner(term[3], 0, path, names, around), ("tuple", items))
        return items[term[1]]

    def of_record(self, term, path, names, around):
        return ("record", [(name, self.inner(inner, step, path, names, around))
                           for step, (name, inner) in enumerate(term[1])], None)

    def of_field(self, term, path, names, around):
        held = self.store.variable()
        self.unify(path, self.inner(term[1], 0, path, names, around),
                   ("record", [(term[2], held)], self.store.mark()))
        return held

    def of_with(self, term, path, names, around):
        record = self.inner(term[1], 0, path, names, around)
        held = self.inner(term[3], 1, path, names, around)
        tail = self.store.mark()
        self.unify(path, record, ("record", [(term[2], self.store.variable())], tail))
        return ("record", [(term[2], held)], tail)

    def tree_at(self, path):
        return numbered(self.store.whole(self.types[path]))
