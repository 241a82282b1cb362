"""Badness: how layouts are compared, and the best one of all that there are."""

from leastlaid.layouts import layouts_told, walked
from leastlaid.words import is_integer

PARTS = ("over", "lines", "broken")


def is_rank(thing):
    """Tell whether any value is a RANK."""
    return isinstance(thing, tuple) and len(thing) == 3 and all([word in thing for word in PARTS])


def is_badness(thing):
    """Tell whether any value is a tuple of three integers from 0 on."""
    if not isinstance(thing, tuple) or len(thing) != 3:
        return False
    return all([is_integer(part) and part >= 0 for part in thing])


def over_of(text, width):
    """Return how many signs of the lines of a text go beyond the width."""
    return sum([max(len(line) - width, 0) for line in text.split("\n")])


def _badness_of_text(width, text, broken):
    """Return the BADNESS of a layout with a text and so many BROKEN moves."""
    return over_of(text, width), text.count("\n"), broken


def badness_of(width, document, ways):
    """Return the BADNESS of the LAYOUT that takes some ways."""
    text, _, broken = walked(document, ways)
    return _badness_of_text(width, text, broken)


def sum_of(one, other):
    """Return two badnesses added, part by part."""
    return one[0] + other[0], one[1] + other[1], one[2] + other[2]


def ranked(rank, badness):
    """Return the parts of a badness in the order of a rank."""
    return tuple([badness[PARTS.index(word)] for word in rank])


def compared(rank, one, other):
    """Return -1, 0 or 1 as a badness is less than, as great as, or greater than another one."""
    first, second = ranked(rank, one), ranked(rank, other)
    if first == second:
        return 0
    return -1 if first < second else 1


def best_by_all(width, rank, document):
    """Return the badness, the WAYS and the text of the FIRST of the BEST LAYOUTS, by going through all of them."""
    best = None
    for ways, text, broken in layouts_told(document):
        badness = _badness_of_text(width, text, broken)
        if best is None or compared(rank, badness, best[0]) < 0:
            best = (badness, ways, text)
    return best
