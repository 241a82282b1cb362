"""Brackets: which ones of a text are pairs."""

from leastlaid.cutting import place_of

CLOSING = {"(": ")", "[": "]", "{": "}"}


def paired(text, tokens):
    """Return the dict of the pairs of brackets among some TOKENS, and the FAULTS."""
    mates = {}
    faults = []
    still_open = []
    for at, token in enumerate(tokens):
        word = token[1]
        if word in CLOSING:
            still_open.append(at)
        elif word in (")", "]", "}"):
            if still_open and CLOSING[tokens[still_open[-1]][1]] == word:
                mates[still_open.pop()] = at
            else:
                faults.append((place_of(text, token[2]), "close"))
    for at in still_open:
        faults.append((place_of(text, tokens[at][2]), "open"))
    # A pair is known when it is closed, so inner ones are there ahead of outer ones.
    return {at: mates[at] for at in sorted(mates)}, tuple(sorted(faults))


def deep_at(text, tokens):
    """Return, for each of some TOKENS, in how many pairs of brackets it stands."""
    pairs = paired(text, tokens)[0]
    ends = {pairs[at]: True for at in pairs}
    deep = 0
    found = []
    for at in range(len(tokens)):
        if at in pairs:
            deep += 1
        found.append(deep)
        if at in ends:
            deep -= 1
    return tuple(found)
