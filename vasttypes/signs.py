"""The texts of types by the numbers of their signs."""

from vasttypes.errors import InvalidBound
from vasttypes.graphs import row_at
from vasttypes.treetexts import mark_name, needs_brackets
from vasttypes.wholes import is_integer_within

MOST_SIGNS = 1000

# What stands between the texts of the types within a function or tuple.
BETWEEN = {"fun": " -> ", "tuple": " * "}


def record_pieces(labels, mark):
    """Return the pieces of the text of a record (see pieces_of)."""
    pieces = [("{", None)]
    for step, label in enumerate(labels):
        pieces.extend([(f"{label}: " if step == 0 else f", {label}: ", None), (None, step)])
    if mark is not None:
        pieces.append((" | " if labels else "| ", None))
        pieces.append((mark_name(mark), None))
    return pieces + [("}", None)]


def pieces_of(rows, number):
    """Return the list of tuples (text, step) of which the text of the row with a number consists.

    The step is that to the inner type to which the piece belongs, None for those that belong to the row itself.
    The text is None for the text of the inner type, so with a step and a text it is one of the brackets around this.
    """
    word, labels, inner, mark = rows[number]
    if word == "var":
        return [(mark_name(mark), None)]
    if word == "record":
        return record_pieces(labels, mark)
    if word not in BETWEEN:
        return [(word, None)]
    pieces = []
    for step, child in enumerate(inner):
        if step > 0:
            pieces.append((BETWEEN[word], None))
        if needs_brackets(word, step, rows[child][0]):
            pieces.extend([("(", step), (None, step), (")", step)])
        else:
            pieces.append((None, step))
    return pieces


def placed_pieces(rows, number, lengths):
    """Return the pieces of a row as tuples (text, step, child, first, after), given the lengths of earlier rows.

    The child is the number of the row for the text of an inner type, first and after are where the piece stands
    in the text of the row.
    """
    inner = rows[number][2]
    placed = []
    first = 0
    for text, step in pieces_of(rows, number):
        child = inner[step] if text is None else None
        after = first + (lengths[child] if text is None else len(text))
        placed.append((text, step, child, first, after))
        first = after
    return placed


def layout(big):
    """Return the list of the placed pieces of all rows, which are worked out once for each Vast."""
    if "layout" not in big.notes:
        found = []
        lengths = []
        for number in range(len(big.rows)):
            found.append(placed_pieces(big.rows, number, lengths))
            lengths.append(found[-1][-1][4])
        big.notes["layout"] = found
    return big.notes["layout"]


def text_length(big):
    """Return how many signs the text has."""
    return layout(big)[-1][-1][4]


def place_over(pieces, k):
    """Return the number of the piece with sign number k of a row."""
    low = 0
    high = len(pieces) - 1
    while low < high:
        middle = (low + high) // 2
        if k < pieces[middle][4]:
            high = middle
        else:
            low = middle + 1
    return low


def descended(big, k):
    """Return the list of the steps to the innermost part whose span has sign number k, and this sign."""
    rows = layout(big)
    pieces = rows[-1]
    path = []
    while True:
        text, step, child, first, _ = pieces[place_over(pieces, k)]
        k = k - first
        if step is not None:
            path.append(step)
        if text is not None:
            return path, text[k]
        pieces = rows[child]


def signs_from(big, first, many):
    """Return the signs from number first on, at most so many."""
    rows = layout(big)
    texts = []
    left = many
    # What is to be written, the next piece on top; of the one on top the first signs are left out.
    waiting = [(None, None, len(rows) - 1, 0, text_length(big))]
    while waiting and left > 0:
        text, _, child, _, _ = waiting.pop()
        if text is None:
            place = place_over(rows[child], first)
            waiting.extend(rows[child][place:][::-1])
            first = first - rows[child][place][3]
            continue
        texts.append(text[first:first + left])
        left = left - len(texts[-1])
        first = 0
    return "".join(texts)


def check_sign(big, k):
    """Raise an error unless k is the number of a sign."""
    if not is_integer_within(k, 0, text_length(big) - 1):
        raise InvalidBound("k")


def sign_at(big, k):
    """Return sign number k of the text."""
    check_sign(big, k)
    _, sign = descended(big, k)
    return sign


def window(big, first, many):
    """Return the signs from number first on, at most so many."""
    if not is_integer_within(first, 0, text_length(big)):
        raise InvalidBound("first")
    if not is_integer_within(many, 0, MOST_SIGNS):
        raise InvalidBound("many")
    return signs_from(big, first, many)


def span(big, path):
    """Return the tuple of the number of the first sign of a part, and the number behind its last one."""
    row_at(big, path)
    rows = layout(big)
    number = len(rows) - 1
    begin = 0
    around = (0, text_length(big))
    for wanted in path:
        belonging = [piece for piece in rows[number] if piece[1] == wanted]
        around = (begin + belonging[0][3], begin + belonging[-1][4])
        # Of brackets and what is in them, this is the piece that is no text.
        inside = belonging[len(belonging) // 2]
        begin = begin + inside[3]
        number = inside[2]
    return around


def path_over(big, k):
    """Return the longest path whose span has sign number k."""
    check_sign(big, k)
    path, _ = descended(big, k)
    return tuple(path)
