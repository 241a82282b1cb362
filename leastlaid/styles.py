"""Styles: how a text is to be laid out."""

from leastlaid.badness import is_rank
from leastlaid.words import is_integer

NAMES = ("width", "step", "blanks", "rank", "operators", "lists")
# The least and the greatest integer that may stand at a name.
BOUNDS = {"width": (8, 120), "step": (0, 8), "blanks": (0, 3)}
# The words that may stand at a name.
WORDS = {"operators": ("ahead", "behind"), "lists": ("fill", "rows")}


def can_be(name, thing):
    """Tell whether any value can stand in a STYLE at one of its names."""
    if name in BOUNDS:
        low, high = BOUNDS[name]
        return is_integer(thing) and low <= thing <= high
    if name in WORDS:
        return isinstance(thing, str) and thing in WORDS[name]
    return is_rank(thing)


def is_style(thing):
    """Tell whether any value is a STYLE."""
    if not isinstance(thing, tuple) or len(thing) != len(NAMES):
        return False
    return all([can_be(name, part) for name, part in zip(NAMES, thing)])


def plain_style():
    """Return the STYLE that is taken if nothing else is said."""
    return 80, 4, 1, ("over", "lines", "broken"), "behind", "rows"


def style_with(style, word, value):
    """Return a STYLE with any value at one of its names, None if this makes none."""
    if not can_be(word, value):
        return None
    at = NAMES.index(word)
    return style[:at] + (value,) + style[at + 1:]


def named(style):
    """Return the dict, ascending, from the names to the values of a STYLE."""
    return {name: style[NAMES.index(name)] for name in sorted(NAMES)}


def style_of(named):
    """Return the STYLE of a dict from the names to its values."""
    return tuple([named[name] for name in NAMES])


def needed_width(text):
    """Return the length of the longest line of a text."""
    return max([len(line) for line in text.split("\n")])


def fitting(style, text):
    """Return a STYLE as narrow as a text lets it be."""
    low, high = BOUNDS["width"]
    return (min(max(needed_width(text), low), high),) + style[1:]
