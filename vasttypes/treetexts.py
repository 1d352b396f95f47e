"""The texts of trees: how they are written, and how they are read."""

from vasttypes.errors import InvalidText
from vasttypes.terms import MOST_LETTERS
from vasttypes.trees import check_tree

LETTERS = "abcdefghijklmnopqrstuvwxyz"


def mark_name(number):
    """Return the name of the variable or tail with a number."""
    name = ""
    left = number + 1
    while left > 0:
        left, digit = divmod(left - 1, len(LETTERS))
        name = LETTERS[digit] + name
    return "'" + name


def needs_brackets(around, step, within):
    """Tell whether brackets stand around what begins with a word, as inner type number step of another one."""
    if around == "fun":
        return within == "fun" and step == 0
    return around == "tuple" and within in ("fun", "tuple")


def name_of(mark, numbers):
    """Return the name of a mark, given the numbers of those that occurred, and keep its own number."""
    return mark_name(numbers.setdefault(mark, len(numbers)))


def part_text(around, step, tree, numbers):
    """Return the text of a tree within another one, with its brackets."""
    text = written_tree(tree, numbers)
    return f"({text})" if needs_brackets(around, step, tree[0]) else text


def record_text(fields, tail):
    """Return the text of a record, given the texts of its fields and the name of its tail, None for no tail."""
    held = ", ".join(fields)
    if tail is None:
        return "{" + held + "}"
    return "{" + held + " | " + tail + "}" if fields else "{| " + tail + "}"


def written_tree(tree, numbers):
    """Return the text of a tree that has been checked, given the numbers of the marks that occurred before."""
    if tree[0] == "var":
        return name_of(tree[1], numbers)
    if tree[0] == "fun":
        return part_text("fun", 0, tree[1], numbers) + " -> " + part_text("fun", 1, tree[2], numbers)
    if tree[0] == "tuple":
        return " * ".join([part_text("tuple", step, item, numbers) for step, item in enumerate(tree[1])])
    if tree[0] == "record":
        fields = [f"{name}: {written_tree(inner, numbers)}" for name, inner in tree[1]]
        return record_text(fields, None if tree[2] is None else name_of(tree[2], numbers))
    return tree[0]


def tree_text(tree):
    """Return the text of a tree."""
    check_tree(tree)
    return written_tree(tree, {})


def agreement(text, at, token):
    """Return how many signs of a token stand in a text from sign number at on."""
    count = 0
    while count < len(token) and at + count < len(text) and text[at + count] == token[count]:
        count += 1
    return count


class Level:
    """What has been read of a type: of the whole, of one in brackets, or of one in a field."""

    def __init__(self, place, name, fields):
        self.place = place
        self.name = name
        self.fields = fields
        self.takers = []
        self.members = []
        self.in_brackets = False

    def add_item(self, tree, in_brackets):
        """Add an item of the tuple that is being read, which may turn out to be no tuple."""
        self.members.append(tree)
        self.in_brackets = in_brackets and len(self.members) == 1

    def add_taker(self):
        """Add what has been read as what a function takes."""
        self.takers.append(self.whole_item())
        self.members = []

    def whole_item(self):
        """Return the tree of the items."""
        return self.members[0] if len(self.members) == 1 else ("tuple", self.members)

    def whole(self):
        """Return the tree of all that has been read."""
        tree = self.whole_item()
        for taker in self.takers[::-1]:
            tree = ("fun", taker, tree)
        return tree

    def ends(self):
        """Return the list of what can stand behind the type, but for the end of the text."""
        if self.in_brackets:
            return []
        if self.place == "field":
            return [", ", " | '", "}"]
        return [")"] if self.place == "brackets" and (self.takers or len(self.members) > 1) else []

    def tokens(self):
        """Return the list of what can stand behind the last item."""
        # Brackets alone around a tuple would be needed only as an item.
        if self.in_brackets and self.members[0][0] == "tuple":
            return [" * "]
        return [" * ", " -> "] + self.ends()


class TreeReader:
    """A reader of the text of a tree; the marks are the names that occurred, with their numbers."""

    def __init__(self, text):
        self.text = text
        self.at = 0
        self.marks = {}
        self.places = []
        self.levels = [Level("whole", "", [])]

    def fail_behind(self, tokens):
        """Raise the error of the first sign with which none of the tokens can go on."""
        raise InvalidText(self.at + max([agreement(self.text, self.at, token) for token in tokens]))

    def take(self, tokens):
        """Take the token that stands here, and return it."""
        for token in tokens:
            if self.text.startswith(token, self.at):
                self.at += len(token)
                return token
        self.fail_behind(tokens)

    def stands_letter(self):
        """Tell whether the sign that stands here is a letter."""
        return self.at < len(self.text) and "a" <= self.text[self.at] <= "z"

    def letters(self, most):
        """Take the letters that stand here, at least one, at most so many if there is a limit, and return them."""
        first = self.at
        while self.stands_letter() and (most is None or self.at < first + most):
            self.at += 1
        if self.at == first:
            raise InvalidText(first)
        return self.text[first:self.at]

    def mark(self):
        """Take the letters of the name of a variable or tail, and return its number."""
        place = self.at - 1
        name = "'" + self.letters(None)
        self.places.append((name, place))
        return self.marks.setdefault(name, len(self.marks))

    def tail(self):
        """Take the name of a tail and the end of its record, and return the number of the tail."""
        mark = self.mark()
        self.take(["}"])
        return mark

    def begin_field(self, fields):
        """Take the name of a field, what stands behind it being the type of a field of these."""
        name = self.letters(MOST_LETTERS)
        self.take([": "])
        self.levels.append(Level("field", name, fields))

    def begun_item(self):
        """Take the beginning of an item; return its tree, or None if it begins with another item."""
        token = self.take(["int", "bool", "'", "(", "{"])
        if token == "int" or token == "bool":
            return (token,)
        if token == "'":
            return ("var", self.mark())
        if token == "(":
            self.levels.append(Level("brackets", "", []))
            return None
        if self.stands_letter():
            self.begin_field([])
            return None
        return ("record", [], None if self.take(["}", "| '"]) == "}" else self.tail())

    def item(self):
        """Take an item up to its end or to the beginning of an inner one; return the tree or None."""
        tree = self.begun_item()
        if tree is not None:
            self.levels[-1].add_item(tree, False)
        return tree

    def end_level(self, token):
        """End the innermost type by what stands behind it; tell whether another type begins at once."""
        level = self.levels.pop()
        if token == ")":
            self.levels[-1].add_item(level.whole(), True)
            return False
        level.fields.append((level.name, level.whole()))
        if token == ", ":
            self.begin_field(level.fields)
            return True
        self.levels[-1].add_item(("record", level.fields, None if token == "}" else self.tail()), False)
        return False

    def begins_another(self):
        """Take what stands behind an item, and tell whether another type begins there."""
        token = self.take(self.levels[-1].tokens())
        if token == " -> ":
            self.levels[-1].add_taker()
        if token == " * " or token == " -> ":
            return True
        return self.end_level(token)

    def is_at_end(self):
        """Tell whether the text can end here and does so."""
        return self.at == len(self.text) and len(self.levels) == 1 and not self.levels[0].in_brackets

    def tree(self):
        """Return what the whole text means, which need not be a tree."""
        is_wanted = True
        while is_wanted:
            while self.item() is None:
                pass
            is_wanted = False
            while not is_wanted and not self.is_at_end():
                is_wanted = self.begins_another()
        return self.levels[0].whole()


def check_names(places):
    """Raise the error of the first name that is not the next one or one of those that occurred."""
    occurred = {}
    for name, place in places:
        if name not in occurred and name != mark_name(len(occurred)):
            raise InvalidText(place)
        occurred[name] = True


def read_tree(text):
    """Return the tree with a text."""
    if not isinstance(text, str):
        raise InvalidText(-1)
    reader = TreeReader(text)
    tree = reader.tree()
    check_tree(tree)
    check_names(reader.places)
    return tree
