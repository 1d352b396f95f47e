"""The texts of types by the numbers of their signs."""

from vasttypes.errors import InvalidBound
from vasttypes.graphs import row_at
from vasttypes.treetexts import mark_name, needs_brackets
from vasttypes.wholes import is_integer_within

MOST_SIGNS = 1000

# What stands between the texts of the types within a function or tuple.
BETWEEN = {"fun": " -> ", "tuple": " * "}


def record_pieces(labels, mark):
    """Return the pieces of the text of a record (see pieces_of)."""
    pieces = [("{", None)]
    for step, label in enumerate(labels):
        pieces.extend([(f"{label}: " if step == 0 else f", {label}: ", None), (None, step)])
    if mark is not None:
        pieces.append((" | " if labels else "| ", None))
        pieces.append((mark_name(mark), None))
    return pieces + [("}", None)]


def pieces_of(rows, number):
    """Return the list of tuples (text, step) of which the text of the row with a number consists.

    The step is that to the inner type to which the piece belongs, None for those that belong to the row itself.
    The text is None for the text of the inner type, so with a step and a text it is one of the brackets around this.
    """
    word, labels, inner, mark = rows[number]
    if word == "var":
        return [(mark_name(mark), None)]
    if word == "record":
        return record_pieces(labels, mark)
    if word not in BETWEEN:
        return [(word, None)]
    pieces = []
    for step, child in enumerate(inner):
        if step > 0:
            pieces.append((BETWEEN[word], None))
        if needs_brackets(word, step, rows[child][0]):
            pieces.extend([("(", step), (None, step), (")", step)])
        else:
            pieces.append((None, step))
    return pieces


def row_lengths(big):
    """Return the list of the lengths of the texts of all rows, which is worked out once for each Vast."""
    if "lengths" not in big.notes:
        lengths = []
        for number, row in enumerate(big.rows):
            pieces = pieces_of(big.rows, number)
            lengths.append(sum([lengths[row[2][step]] if text is None else len(text) for text, step in pieces]))
        big.notes["lengths"] = lengths
    return big.notes["lengths"]


def text_length(big):
    """Return how many signs the text has."""
    return row_lengths(big)[-1]


def placed_pieces(big, number, first):
    """Return the list of tuples (text, step, first, after) of the pieces of a row whose text begins at a sign."""
    lengths = row_lengths(big)
    inner = big.rows[number][2]
    placed = []
    for text, step in pieces_of(big.rows, number):
        after = first + (lengths[inner[step]] if text is None else len(text))
        placed.append((text, step, first, after))
        first = after
    return placed


def signs_from(big, first, many):
    """Return the signs from number first on, at most so many."""
    texts = []
    left = many
    waiting = [(None, len(big.rows) - 1, 0, text_length(big))]
    while waiting and left > 0:
        text, number, begin, after = waiting.pop()
        if after <= first:
            continue
        if text is None:
            inner = big.rows[number][2]
            for held, step, start, end in placed_pieces(big, number, begin)[::-1]:
                waiting.append((held, inner[step] if held is None else 0, start, end))
            continue
        start = max(first - begin, 0)
        texts.append(text[start:start + left])
        left -= len(texts[-1])
    return "".join(texts)


def check_sign(big, k):
    """Raise an error unless k is the number of a sign."""
    if not is_integer_within(k, 0, text_length(big) - 1):
        raise InvalidBound("k")


def sign_at(big, k):
    """Return sign number k of the text."""
    check_sign(big, k)
    return signs_from(big, k, 1)


def window(big, first, many):
    """Return the signs from number first on, at most so many."""
    if not is_integer_within(first, 0, text_length(big)):
        raise InvalidBound("first")
    if not is_integer_within(many, 0, MOST_SIGNS):
        raise InvalidBound("many")
    return signs_from(big, first, many)


def span(big, path):
    """Return the tuple of the number of the first sign of a part, and the number behind its last one."""
    row_at(big, path)
    number = len(big.rows) - 1
    begin = 0
    around = (0, text_length(big))
    for wanted in path:
        belonging = [piece for piece in placed_pieces(big, number, begin) if piece[1] == wanted]
        around = (belonging[0][2], belonging[-1][3])
        begin = [first for text, _, first, _ in belonging if text is None][0]
        number = big.rows[number][2][wanted]
    return around


def piece_over(big, number, begin, k):
    """Return the tuple (text, step, first) of the piece with sign number k, of a row whose text begins at a sign."""
    for text, step, first, after in placed_pieces(big, number, begin):
        if k < after:
            return text, step, first
    return "", None, begin


def path_over(big, k):
    """Return the longest path whose span has sign number k."""
    check_sign(big, k)
    path = []
    number = len(big.rows) - 1
    text, step, begin = piece_over(big, number, 0, k)
    while step is not None:
        path.append(step)
        number = big.rows[number][2][step]
        # A bracket belongs to the part within it, but to nothing within this.
        if text is not None:
            break
        text, step, begin = piece_over(big, number, begin, k)
    return tuple(path)
