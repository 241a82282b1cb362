"""Changes: texts in which signs are put in the place of others."""

from leastlaid.errors import NoChange
from leastlaid.words import is_integer, is_text


def is_change(thing):
    """Tell whether any value is a tuple of the form of a CHANGE."""
    if not isinstance(thing, tuple) or len(thing) != 3:
        return False
    begin, end, string = thing
    return is_integer(begin) and is_integer(end) and 0 <= begin <= end and is_text(string)


def changed(text, change):
    """Return the text that a CHANGE makes of one."""
    begin, end, string = change
    if end > len(text):
        raise NoChange(change)
    return text[:begin] + string + text[end:]


def changed_by(text, changes):
    """Return the text that some CHANGES make of one, each of what the earlier ones made."""
    found = text
    for change in changes:
        found = changed(found, change)
    return found


def _same_begin(one, other):
    """Return how many signs two strings have in common at their begins."""
    many = 0
    while many < min(len(one), len(other)) and one[many] == other[many]:
        many += 1
    return many


def change_between(one, other):
    """Return the CHANGE with the greatest begin, and then the least end, that makes one text of another one."""
    begin = _same_begin(one, other)
    same = _same_begin(one[begin:][::-1], other[begin:][::-1])
    return begin, len(one) - same, other[begin:len(other) - same]


def back_of(text, change):
    """Return the CHANGE that takes a CHANGE of a text back."""
    begin, end, string = change
    return begin, begin + len(string), text[begin:end]
