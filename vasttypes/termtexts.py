"""The texts of terms: how they are written, and how they are read."""

from vasttypes.errors import InvalidName, InvalidText
from vasttypes.terms import GREATEST, check_term, is_name

NO_NAMES = ("fun", "let", "rec", "in", "if", "then", "else", "of", "with", "true", "false")

# How nodes are written: words, and the numbers of the places in the node whose texts stand there.
WRITTEN = {
    "var": (1,),
    "fun": ("(", "fun", 1, ".", 2, ")"),
    "app": ("(", 1, 2, ")"),
    "let": ("(", "let", 1, "=", 2, "in", 3, ")"),
    "rec": ("(", "rec", 1, "=", 2, "in", 3, ")"),
    "if": ("(", "if", 1, "then", 2, "else", 3, ")"),
    "part": ("(", 1, "of", 2, 3, ")"),
    "field": ("(", 1, ".", 2, ")"),
    "with": ("(", 1, "with", 2, "=", 3, ")"),
}

# More digits than those of any integer of a term: what they mean beyond that makes no difference.
MANY_DIGITS = 40

# What is wanted behind the words that tell of which kind a node is: pairs of what it is, and which.
# What stands behind "build" takes its values from those that have been read, without a word of its own.
WANTED_BEHIND = {
    "fun": (("name", ""), ("word", "."), ("term", ""), ("word", ")"), ("build", "fun")),
    "let": (
        ("name", ""), ("word", "="), ("term", ""), ("word", "in"), ("term", ""), ("word", ")"), ("build", "let"),
    ),
    "rec": (
        ("name", ""), ("word", "="), ("term", ""), ("word", "in"), ("term", ""), ("word", ")"), ("build", "rec"),
    ),
    "if": (
        ("term", ""), ("word", "then"), ("term", ""), ("word", "else"), ("term", ""), ("word", ")"), ("build", "if"),
    ),
    "of": (("integer", ""), ("term", ""), ("word", ")"), ("build", "part")),
    "app": (("word", ")"), ("build", "app")),
    ".": (("name", ""), ("word", ")"), ("build", "field")),
    "with": (("name", ""), ("word", "="), ("term", ""), ("word", ")"), ("build", "with")),
    ",": (("term", ""), ("build", "item"), ("items", "")),
    "=": (("word", "="), ("term", ""), ("build", "entry"), ("fields", "")),
}

# How many values the nodes of a kind are built of.
BUILT_OF = {"fun": 2, "let": 3, "rec": 3, "if": 3, "part": 3, "field": 2, "with": 3, "app": 2, "tuple": 1, "record": 1}


def list_pieces(begin, groups, end):
    """Return the pieces of a list: those of its groups with commas between them, and words around them."""
    pieces = [(True, begin)]
    for k, group in enumerate(groups):
        if k > 0:
            pieces.append((True, ","))
        pieces.extend(group)
    return pieces + [(True, end)]


def pieces_of(node):
    """Return the list of tuples (is_word, held): the words of a node, and the names, numbers and terms among them."""
    if node[0] == "int":
        return [(True, str(node[1]))]
    if node[0] == "bool":
        return [(True, "true" if node[1] else "false")]
    if node[0] == "tuple":
        return list_pieces("(", [[(False, item)] for item in node[1]], ")")
    if node[0] == "record":
        return list_pieces("{", [[(False, name), (True, "="), (False, term)] for name, term in node[1]], "}")
    return [(True, piece) if isinstance(piece, str) else (False, node[piece]) for piece in WRITTEN[node[0]]]


def term_text(term):
    """Return the text of a term."""
    check_term(term)
    words = []
    waiting = [(False, term)]
    while waiting:
        is_word, held = waiting.pop()
        if isinstance(held, tuple):
            waiting.extend(pieces_of(held)[::-1])
            continue
        if not is_word and held in NO_NAMES:
            raise InvalidName(held)
        words.append(str(held))
    return " ".join(words)


def is_written_integer(word):
    """Tell whether a word is an integer as it is written in texts."""
    digits = word.removeprefix("-")
    if not digits.isascii() or not digits.isdigit():
        return False
    return digits[0] != "0" or word == "0"


def integer_of(word):
    """Return the integer that a word means, or one that is likewise too great or small for all terms."""
    if len(word) > MANY_DIGITS:
        return -2 * GREATEST if word.startswith("-") else 2 * GREATEST
    return int(word)


def can_be_name(word):
    """Tell whether a word is a name in texts."""
    return is_name(word) and word not in NO_NAMES


def want(wanted, behind):
    """Put what is wanted next, in the order in which it is wanted, on top of what is wanted already."""
    wanted.extend(behind[::-1])


def take_word(word, which, wanted, values):
    """Take the word that is wanted; this and the next functions tell whether they take the word."""
    return word == which


def take_name(word, which, wanted, values):
    """Take a name."""
    values.append(word)
    return can_be_name(word)


def take_integer(word, which, wanted, values):
    """Take an integer that is not a term."""
    if not is_written_integer(word):
        return False
    values.append(integer_of(word))
    return True


def take_term(word, which, wanted, values):
    """Take the first word of a term."""
    if word == "(":
        wanted.append(("opened", ""))
    elif word == "{":
        values.append([])
        wanted.append(("fields", "{"))
    elif word == "true" or word == "false":
        values.append(("bool", word == "true"))
    elif is_written_integer(word):
        values.append(("int", integer_of(word)))
    else:
        values.append(("var", word))
        return can_be_name(word)
    return True


def take_opened(word, which, wanted, values):
    """Take the word behind a bracket: it tells the kind, or begins a term, or may be the number of a part."""
    if word in ("fun", "let", "rec", "if"):
        want(wanted, WANTED_BEHIND[word])
        return True
    wanted.append(("begun", "of" if is_written_integer(word) else ""))
    return take_term(word, "", wanted, values)


def take_begun(word, which, wanted, values):
    """Take the word behind the first term within brackets, which tells the kind."""
    if word == "of" and which == "of":
        # What was read as the term of an integer was the number of a part.
        values[-1] = values[-1][1]
        want(wanted, WANTED_BEHIND["of"])
        return True
    if word == ",":
        values[-1] = [values[-1]]
    if word in (",", ".", "with"):
        want(wanted, WANTED_BEHIND[word])
        return True
    want(wanted, WANTED_BEHIND["app"])
    return take_term(word, "", wanted, values)


def take_items(word, which, wanted, values):
    """Take the word behind an item."""
    want(wanted, WANTED_BEHIND[","] if word == "," else (("build", "tuple"),))
    return word == "," or word == ")"


def take_fields(word, which, wanted, values):
    """Take the word behind the bracket of a record, or the one behind a field."""
    if word == "}":
        wanted.append(("build", "record"))
        return True
    want(wanted, WANTED_BEHIND["="])
    if which == "{":
        return take_name(word, "", wanted, values)
    wanted.append(("name", ""))
    return word == ","


TAKES = {
    "word": take_word,
    "name": take_name,
    "integer": take_integer,
    "term": take_term,
    "opened": take_opened,
    "begun": take_begun,
    "items": take_items,
    "fields": take_fields,
}


def build(which, values):
    """Build an item, a field or a node from the last values, and put it in their place."""
    if which == "item":
        item = values.pop()
        values[-1].append(item)
    elif which == "entry":
        term = values.pop()
        name = values.pop()
        values[-1].append((name, term))
    else:
        taken = values[-BUILT_OF[which]:]
        del values[-BUILT_OF[which]:]
        values.append((which, *taken))


def build_all(wanted, values):
    """Build what can be built before another word is wanted."""
    while wanted and wanted[-1][0] == "build":
        build(wanted.pop()[1], values)


def term_of_words(words):
    """Return what the words of a text mean, which need not be a term."""
    wanted = [("term", "")]
    values = []
    for number, word in enumerate(words):
        if not wanted:
            raise InvalidText(number)
        what, which = wanted.pop()
        take = TAKES[what]
        if not take(word, which, wanted, values):
            raise InvalidText(number)
        build_all(wanted, values)
    if wanted:
        raise InvalidText(len(words))
    return values[0]


def read_term(text):
    """Return the term with a text."""
    if not isinstance(text, str):
        raise InvalidText(-1)
    term = term_of_words(text.split(" "))
    check_term(term)
    return term
