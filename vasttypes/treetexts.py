"""The texts of trees: how they are written, and how they are read."""

from vasttypes.errors import InvalidText
from vasttypes.trees import check_tree
from vasttypes.typereaders import TypeReader

LETTERS = "abcdefghijklmnopqrstuvwxyz"


def mark_name(number):
    """Return the name of the variable or tail with a number."""
    name = ""
    left = number + 1
    while left > 0:
        left, digit = divmod(left - 1, len(LETTERS))
        name = LETTERS[digit] + name
    return "'" + name


def needs_brackets(around, step, within):
    """Tell whether brackets stand around what begins with a word, as inner type number step of another one."""
    if around == "fun":
        return within == "fun" and step == 0
    return around == "tuple" and within in ("fun", "tuple")


def name_of(mark, numbers):
    """Return the name of a mark, given the numbers of those that occurred, and keep its own number."""
    return mark_name(numbers.setdefault(mark, len(numbers)))


def part_text(around, step, tree, numbers):
    """Return the text of a tree within another one, with its brackets."""
    text = written_tree(tree, numbers)
    return f"({text})" if needs_brackets(around, step, tree[0]) else text


def record_text(fields, tail):
    """Return the text of a record, given the texts of its fields and the name of its tail, None for no tail."""
    held = ", ".join(fields)
    if tail is None:
        return "{" + held + "}"
    return "{" + held + " | " + tail + "}" if fields else "{| " + tail + "}"


def written_tree(tree, numbers):
    """Return the text of a tree that has been checked, given the numbers of the marks that occurred before."""
    if tree[0] == "var":
        return name_of(tree[1], numbers)
    if tree[0] == "fun":
        return part_text("fun", 0, tree[1], numbers) + " -> " + part_text("fun", 1, tree[2], numbers)
    if tree[0] == "tuple":
        return " * ".join([part_text("tuple", step, item, numbers) for step, item in enumerate(tree[1])])
    if tree[0] == "record":
        fields = [f"{name}: {written_tree(inner, numbers)}" for name, inner in tree[1]]
        return record_text(fields, None if tree[2] is None else name_of(tree[2], numbers))
    return tree[0]


def tree_text(tree):
    """Return the text of a tree."""
    check_tree(tree)
    return written_tree(tree, {})


class TreeReader(TypeReader):
    """A reader of the text of a tree; the places are those of the names of variables and tails."""

    def __init__(self, text):
        super().__init__(text, {})
        self.places = []

    def build(self, word, labels, inner, mark):
        """Return the tree that begins with a word."""
        if word == "var":
            return ("var", mark)
        if word == "tuple":
            return ("tuple", inner)
        if word == "record":
            return ("record", list(zip(labels, inner)), mark)
        return (word, *inner)

    def meet_mark(self, name, place, labels):
        """Note the name of a variable or tail."""
        self.places.append((name, place))


def check_names(places):
    """Raise the error of the first name that is not the next one or one of those that occurred."""
    occurred = {}
    for name, place in places:
        if name not in occurred and name != mark_name(len(occurred)):
            raise InvalidText(place)
        occurred[name] = True


def read_tree(text):
    """Return the tree with a text."""
    if not isinstance(text, str):
        raise InvalidText(-1)
    reader = TreeReader(text)
    tree = reader.read()
    check_tree(tree)
    check_names(reader.places)
    return tree
