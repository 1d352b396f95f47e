"""The words of the texts of types by their numbers."""

from vasttypes.errors import InvalidBound
from vasttypes.signs import check_sign, layout, place_over, text_length
from vasttypes.terms import is_name
from vasttypes.wholes import is_integer_within

BLANK = " "

# The words that are neither names of variables and tails nor those of fields.
FIXED_WORDS = ("int", "bool", "->", "*", "(", ")", "{", "}", ",", "|")


def is_word(value):
    """Tell whether a value is a word that a text can have."""
    if not isinstance(value, str):
        return False
    if value.startswith("'"):
        letters = value[1:]
        return letters.isascii() and letters.isalpha() and letters.islower()
    return value in FIXED_WORDS or (value.endswith(":") and is_name(value[:-1]))


def words_within(text):
    """Return the list of tuples (word, first) for the words and blanks of a piece of a text."""
    found = []
    first = 0
    for number, word in enumerate(text.split(BLANK)):
        if number > 0:
            found.append((BLANK, first))
            first += 1
        if word:
            found.append((word, first))
            first += len(word)
    return found


class WordIndex:
    """Which words and blanks the rows of a type have.

    The tallies have, for each word, a dict: how often the rows that have it themselves, apart from inner types, do so.
    The totals tell for each row how many words its text has. The counts have, for each word that was asked for, the
    list that tells for each row how often it occurs.
    """

    def __init__(self, big):
        self.rows = big.rows
        self.tallies = {}
        self.totals = []
        self.counts = {}
        for number, pieces in enumerate(layout(big)):
            total = 0
            for text, _, child, _, _ in pieces:
                total += self.totals[child] if text is None else self.add_words(number, text)
            self.totals.append(total)

    def add_words(self, number, text):
        """Add the words of a piece of the row with a number, and return how many there are, blanks left out."""
        total = 0
        for word, _ in words_within(text):
            counts = self.tallies.setdefault(word, {})
            counts[number] = counts.get(number, 0) + 1
            total += int(word != BLANK)
        return total

    def counts_of(self, word):
        """Return the list that tells for each row how often a word occurs in its text."""
        if word not in self.tallies:
            return [0] * len(self.rows)
        if word not in self.counts:
            own = self.tallies[word]
            counts = []
            for number, row in enumerate(self.rows):
                counts.append(own.get(number, 0) + sum([counts[child] for child in row[2]]))
            self.counts[word] = counts
        return self.counts[word]


def word_index(big):
    """Return the WordIndex of a type, which is made once for each Vast."""
    if "words" not in big.notes:
        big.notes["words"] = WordIndex(big)
    return big.notes["words"]


def many_in(text, word):
    """Return how often a word, or any word for None, occurs in a piece of a text."""
    if word is None:
        return len([held for held, _ in words_within(text) if held != BLANK])
    return len([held for held, _ in words_within(text) if held == word])


def occurrence(big, counts, word, k):
    """Return the tuple (word, first) of occurrence number k of a word, or of any word for None.

    The counts tell for each row how many there are in its text.
    """
    rows = layout(big)
    pieces = rows[-1]
    begin = 0
    while True:
        for text, _, child, first, _ in pieces:
            here = counts[child] if text is None else many_in(text, word)
            if k < here:
                break
            k = k - here
        begin = begin + first
        if text is not None:
            found = [pair for pair in words_within(text) if pair[0] == word or (word is None and pair[0] != BLANK)]
            return found[k][0], begin + found[k][1]
        pieces = rows[child]


def begun_before(big, word, k):
    """Return how many of the places of a word, or of blanks, begin before sign number k."""
    counts = word_index(big).counts_of(word)
    rows = layout(big)
    pieces = rows[-1]
    total = 0
    while True:
        over = place_over(pieces, k)
        for text, _, child, _, _ in pieces[:over]:
            total += counts[child] if text is None else many_in(text, word)
        text, _, child, first, _ = pieces[over]
        k = k - first
        if text is not None:
            return total + len([held for held, at in words_within(text) if held == word and at < k])
        pieces = rows[child]


def covering(big, k):
    """Return the tuple (word, first) of the word or blank to which sign number k belongs."""
    rows = layout(big)
    pieces = rows[-1]
    begin = 0
    while True:
        text, _, child, first, _ = pieces[place_over(pieces, k - begin)]
        begin = begin + first
        if text is not None:
            word, at = [pair for pair in words_within(text) if begin + pair[1] <= k][-1]
            return word, begin + at
        pieces = rows[child]


def check_word(word):
    """Raise an error unless a value is a word that a text can have."""
    if not is_word(word):
        raise InvalidBound("word")


def word_total(big):
    """Return how many words the text has."""
    return word_index(big).totals[-1]


def word_at(big, k):
    """Return the tuple of word number k and the number of its first sign."""
    if not is_integer_within(k, 0, word_total(big) - 1):
        raise InvalidBound("k")
    return occurrence(big, word_index(big).totals, None, k)


def word_over(big, k):
    """Return the tuple of the word over sign number k, how many equal ones begin before it, and which sign this is."""
    check_sign(big, k)
    word, first = covering(big, k)
    return word, begun_before(big, word, first), k - first


def counted(big, word):
    """Return how often a word occurs."""
    check_word(word)
    return word_index(big).counts_of(word)[-1]


def counted_before(big, word, k):
    """Return how many of the places of a word begin before sign number k."""
    check_word(word)
    if not is_integer_within(k, 0, text_length(big)):
        raise InvalidBound("k")
    return begun_before(big, word, k)


def place(big, word, k):
    """Return the number of the first sign of occurrence number k of a word."""
    check_word(word)
    counts = word_index(big).counts_of(word)
    if not is_integer_within(k, 0, counts[-1] - 1):
        raise InvalidBound("k")
    _, first = occurrence(big, counts, word, k)
    return first
