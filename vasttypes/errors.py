"""The errors that the package raises, each with its fields as attributes."""


class VastError(ArithmeticError):
    """What all errors of the package have in common."""


class InvalidTerm(VastError):
    """A value in the place of a term is none; path leads to it."""

    def __init__(self, path):
        self.path = path


class InvalidPath(VastError):
    """A value is not the path of a node or part."""

    def __init__(self, path):
        self.path = path


class InvalidName(VastError):
    """A name cannot stand where it stands, or a value is no name."""

    def __init__(self, name):
        self.name = name


class InvalidText(VastError):
    """A value is not a text; word is the number of its first word or sign that is wrong."""

    def __init__(self, word):
        self.word = word


class InvalidTree(VastError):
    """A value in the place of a tree is none; path leads to it."""

    def __init__(self, path):
        self.path = path


class InvalidBound(VastError):
    """The argument with this name has a value that it cannot have."""

    def __init__(self, argument):
        self.argument = argument


class NoType(VastError):
    """A term has no type; path leads to the first node at which this shows."""

    def __init__(self, path):
        self.path = path


class InvalidLines(VastError):
    """A value is not a shared text; line and word tell where this shows."""

    def __init__(self, line, word):
        self.line = line
        self.word = word


class InvalidCall(VastError):
    """A value is not an edit that can be done."""

    def __init__(self, call):
        self.call = call


class LimitExceeded(VastError):
    """Something is greater than this limit."""

    def __init__(self, limit):
        self.limit = limit
