"""Grammars of the texts of terms and trees, and a slow way to find where a text leaves them."""

import re


def first_wrong(grammar, tokens):
    """Return the number of the first token with which no text of the grammar can go on.

    It is the number of tokens if some are missing, and None for a text of the grammar. This is
    Earley's method. A symbol in capitals that is no key of the grammar is tested by a pattern.
    """
    states = [{("START", ("TEXT",), 0, 0)}]
    for number in range(len(tokens) + 1):
        complete(grammar, states, number)
        if number == len(tokens):
            break
        moved = {(head, body, dot + 1, origin) for head, body, dot, origin in states[number]
                 if dot < len(body) and body[dot] not in grammar and matches(body[dot], tokens[number])}
        if not moved:
            return number
        states.append(moved)
    return None if ("START", ("TEXT",), 1, 0) in states[-1] else len(tokens)


def complete(grammar, states, number):
    """Add all states that follow from those behind so many tokens, without another token."""
    waiting = list(states[number])
    while waiting:
        head, body, dot, origin = waiting.pop()
        if dot == len(body):
            new = [(h, b, d + 1, o) for h, b, d, o in states[origin] if d < len(b) and b[d] == head]
        elif body[dot] in grammar:
            new = [(body[dot], production, 0, number) for production in grammar[body[dot]]]
        else:
            new = []
        for state in new:
            if state not in states[number]:
                states[number].add(state)
                waiting.append(state)


PATTERNS = {
    "NAME": r"(?!(fun|let|rec|in|if|then|else|of|with|true|false)\Z)[a-z]{1,8}\Z",
    "INTEGER": r"(0|-?[1-9][0-9]*)\Z",
    "LETTER": r"[a-z]\Z",
}


def matches(symbol, token):
    return bool(re.match(PATTERNS[symbol], token)) if symbol in PATTERNS else symbol == token


def productions(text, split):
    return [tuple(split(production)) for production in text.split(" / ")]


TERMS = {head: productions(text, str.split) for head, text in {
    "TEXT": "NAME / INTEGER / true / false / ( fun NAME . TEXT ) / ( TEXT TEXT ) / ( let NAME = TEXT in TEXT ) / "
            "( rec NAME = TEXT in TEXT ) / ( if TEXT then TEXT else TEXT ) / ( TEXT , ITEMS ) / "
            "( INTEGER of INTEGER TEXT ) / { } / { FIELDS } / ( TEXT . NAME ) / ( TEXT with NAME = TEXT )",
    "ITEMS": "TEXT / TEXT , ITEMS",
    "FIELDS": "NAME = TEXT / NAME = TEXT , FIELDS",
}.items()}


def signs(production):
    """Split a production into single signs; ~ is a blank, and a word in capitals is one symbol."""
    return [part.replace("~", " ") for part in re.findall(r"[A-Z]+|[^A-Z ]", production)]


TREES = {head: productions(text, signs) for head, text in {
    "TEXT": "FUN / ATOM / TUPLE",
    "FUN": "ATOM~->~TEXT / TUPLE~->~TEXT / (FUN)~->~TEXT",
    "TUPLE": "ITEM~*~ITEM / ITEM~*~TUPLE",
    "ITEM": "ATOM / (FUN) / (TUPLE)",
    "ATOM": "int / bool / VARIABLE / {} / {|~VARIABLE} / {FIELDS} / {FIELDS~|~VARIABLE}",
    "VARIABLE": "'LETTERS",
    "LETTERS": "LETTER / LETTER LETTERS",
    "FIELDS": "LABEL:~TEXT / LABEL:~TEXT,~FIELDS",
    "LABEL": " / ".join(["LETTER " * count for count in range(1, 9)]),
}.items()}
