"""Readers of the texts of types."""

from vasttypes.errors import InvalidText
from vasttypes.terms import MOST_LETTERS

# What an item of a tuple can begin with; what is no tuple is read as one item.
BEGINNINGS = ("int", "bool", "'", "(", "{")


def agreement(text, at, token):
    """Return how many signs of a token stand in a text from sign number at on."""
    count = 0
    while count < len(token) and at + count < len(text) and text[at + count] == token[count]:
        count += 1
    return count


class Level:
    """What has been read of a type: of the whole, of one in brackets, or of one in a field."""

    def __init__(self, place, name, fields):
        self.place = place
        self.name = name
        self.fields = fields
        self.takers = []
        self.members = []
        self.in_brackets = False
        self.is_bracketed_tuple = False

    def add_item(self, node):
        """Add an item of the tuple that is being read, which may turn out to be no tuple."""
        self.members.append(node)
        self.in_brackets = False

    def add_bracketed(self, node, is_tuple):
        """Add an item that is in brackets."""
        self.add_item(node)
        self.in_brackets = len(self.members) == 1
        self.is_bracketed_tuple = is_tuple

    def needs_brackets(self):
        """Tell whether what has been read is a function or tuple."""
        return bool(self.takers) or len(self.members) > 1

    def ends(self):
        """Return the list of what can stand behind the type, but for the end of the text."""
        if self.in_brackets:
            return []
        if self.place == "field":
            return [", ", " | '", "}"]
        return [")"] if self.place == "brackets" and self.needs_brackets() else []

    def tokens(self):
        """Return the list of what can stand behind the last item."""
        # Brackets alone around a tuple would be needed only as an item.
        if self.in_brackets and self.is_bracketed_tuple:
            return [" * "]
        return [" * ", " -> "] + self.ends()


class TypeReader:
    """A reader of the text of a type; the marks are the names that occurred, with their numbers.

    What is made of the text is left to classes below.
    """

    def __init__(self, text, marks):
        self.text = text
        self.at = 0
        self.marks = marks
        self.beginnings = BEGINNINGS
        self.levels = [Level("whole", "", [])]

    def build(self, word, labels, inner, mark):
        """Return what is made of a type that begins with a word."""

    def meet_mark(self, name, place, labels):
        """Note the name of a variable (without labels), or of the tail of a record with labels, at a place."""

    def meet_field(self, fields, name, place):
        """Note the name of another field of a record, at a place."""

    def meet_item(self, many, place):
        """Note an item behind so many others, at a place."""

    def reference(self):
        """Return what is made of a part that the text names by a number, whose sign has been taken."""

    def fail_behind(self, tokens):
        """Raise the error of the first sign with which none of the tokens can go on."""
        raise InvalidText(self.at + max([agreement(self.text, self.at, token) for token in tokens]))

    def take(self, tokens):
        """Take the token that stands here, and return it."""
        for token in tokens:
            if self.text.startswith(token, self.at):
                self.at += len(token)
                return token
        self.fail_behind(tokens)

    def stands_between(self, least, greatest):
        """Tell whether the sign that stands here is one of a row of signs."""
        return self.at < len(self.text) and least <= self.text[self.at] <= greatest

    def letters(self, most):
        """Take the letters that stand here, at least one, at most so many if there is a limit, and return them."""
        first = self.at
        while self.stands_between("a", "z") and (most is None or self.at < first + most):
            self.at += 1
        if self.at == first:
            raise InvalidText(first)
        return self.text[first:self.at]

    def mark(self, labels):
        """Take the letters of the name of a variable or tail, and return its number."""
        place = self.at - 1
        name = "'" + self.letters(None)
        self.meet_mark(name, place, labels)
        return self.marks.setdefault(name, len(self.marks))

    def record(self, fields, is_open):
        """Return what is made of a record, and take its tail and end if it is open."""
        labels = [name for name, _ in fields]
        mark = None
        if is_open:
            mark = self.mark(labels)
            self.take(["}"])
        return self.build("record", labels, [node for _, node in fields], mark)

    def begin_field(self, fields):
        """Take the name of a field, what stands behind it being the type of a field of these."""
        place = self.at
        name = self.letters(MOST_LETTERS)
        self.meet_field(fields, name, place)
        self.take([": "])
        self.levels.append(Level("field", name, fields))

    def begun_item(self):
        """Take the beginning of an item; return what is made of it, or None if it begins with another item."""
        self.meet_item(len(self.levels[-1].members), self.at)
        token = self.take(self.beginnings)
        if token == "int" or token == "bool":
            return self.build(token, [], [], None)
        if token == "'":
            return self.build("var", [], [], self.mark(None))
        if token == "#":
            return self.reference()
        if token == "(":
            self.levels.append(Level("brackets", "", []))
            return None
        if self.stands_between("a", "z"):
            self.begin_field([])
            return None
        return self.record([], self.take(["}", "| '"]) != "}")

    def item(self):
        """Take an item up to its end or to the beginning of an inner one, and tell whether it has ended."""
        node = self.begun_item()
        if node is None:
            return False
        self.levels[-1].add_item(node)
        return True

    def whole_item(self, level):
        """Return what is made of the items of a type."""
        if len(level.members) == 1:
            return level.members[0]
        return self.build("tuple", [], level.members, None)

    def whole(self, level):
        """Return what is made of all that has been read of a type."""
        node = self.whole_item(level)
        for taker in level.takers[::-1]:
            node = self.build("fun", [], [taker, node], None)
        return node

    def end_level(self, token):
        """End the innermost type by what stands behind it; tell whether another type begins at once."""
        level = self.levels.pop()
        node = self.whole(level)
        if token == ")":
            self.levels[-1].add_bracketed(node, not level.takers)
            return False
        level.fields.append((level.name, node))
        if token == ", ":
            self.begin_field(level.fields)
            return True
        self.levels[-1].add_item(self.record(level.fields, token != "}"))
        return False

    def begins_another(self):
        """Take what stands behind an item, and tell whether another type begins there."""
        level = self.levels[-1]
        token = self.take(level.tokens())
        if token == " -> ":
            level.takers.append(self.whole_item(level))
            level.members = []
        if token == " * " or token == " -> ":
            return True
        return self.end_level(token)

    def is_at_end(self):
        """Tell whether the text can end here and does so."""
        return self.at == len(self.text) and len(self.levels) == 1 and not self.levels[0].in_brackets

    def read(self):
        """Return what is made of the whole text."""
        is_wanted = True
        while is_wanted:
            while not self.item():
                pass
            is_wanted = False
            while not is_wanted and not self.is_at_end():
                is_wanted = self.begins_another()
        return self.whole(self.levels[0])
