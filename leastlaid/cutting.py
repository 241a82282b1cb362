"""Cutting: lines, places and words of a text."""

from leastlaid.words import line_end, word_at


def lines_of(text):
    """Return the list of the LINES of a text."""
    return text.split("\n")


def place_of(text, index):
    """Return the PLACE of the sign with an index, or of the end."""
    begin = text.rfind("\n", 0, index) + 1
    return text.count("\n", 0, index), index - begin


def index_of(text, place):
    """Return the index of a PLACE of a text."""
    line, column = place
    return sum([len(other) + 1 for other in lines_of(text)[:line]]) + column


def _behind_fault(text, at, reason):
    """Return the index at which cutting goes on behind a FAULT."""
    if reason == "sign":
        return at + 1
    if reason == "quote":
        return line_end(text, at)
    return len(text)


def cut(text):
    """Return the tuple of all TOKENS of a text, and that of the FAULTS of cutting."""
    tokens = []
    faults = []
    at = 0
    while at < len(text):
        if text[at] in " \n":
            at += 1
            continue
        kind, end = word_at(text, at)
        if end is None:
            faults.append((place_of(text, at), kind))
            at = _behind_fault(text, at, kind)
        else:
            tokens.append((kind, text[at:end], at))
            at = end
    return tuple(tokens), tuple(faults)


def glued(one, other):
    """Tell whether two words, put together, would not be cut into just these two."""
    return [token[1] for token in cut(one + other)[0]] != [one, other]
