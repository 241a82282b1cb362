"""Edits: the changes of gaps alone by which a text is formatted."""

from leastlaid.errors import NoChange
from leastlaid.formatting import formatted
from leastlaid.owners import marked, written


def _items_at(text):
    """Return the list of the ITEMS of a text with the indexes of their first signs."""
    return [(written(word), begin) for mark, word, begin, _ in marked(text)[1] if mark != "group"]


def gaps_of(text):
    """Return the tuple of the begins and ends of all GAPS of a text."""
    items = _items_at(text)
    begins = [0] + [begin + len(item) for item, begin in items]
    ends = [begin for _, begin in items] + [len(text)]
    return tuple(zip(begins, ends))


def items_of(text):
    """Return the tuple of the ITEMS of a text."""
    return tuple([item for item, _ in _items_at(text)])


def all_changed(text, changes):
    """Return a text in which all of some CHANGES have been made, each told by indexes of the text itself."""
    parts = []
    behind = 0
    for change in changes:
        begin, end, string = change
        if end > len(text) or begin < behind:
            raise NoChange(change)
        parts.extend([text[behind:begin], string])
        behind = end
    return "".join(parts) + text[behind:]


def changes_to(text, other):
    """Return the list of the CHANGES of gaps that make another text of one, None if the ITEMS are not the same."""
    if items_of(text) != items_of(other):
        return None
    found = []
    for (begin, end), (other_begin, other_end) in zip(gaps_of(text), gaps_of(other)):
        string = other[other_begin:other_end]
        if text[begin:end] != string:
            found.append((begin, end, string))
    return found


def edits_of(text, style):
    """Return the list of the CHANGES of gaps by which a text is formatted."""
    return changes_to(text, formatted(text, style))
