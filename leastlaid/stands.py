"""Stands of documents, and the moves that lead from one to others."""

from leastlaid.badness import over_of
from leastlaid.docs import flat_text, folded, is_document
from leastlaid.steps import size_by, steps
from leastlaid.words import is_integer


def first_stand(document):
    """Return the first STAND of a document."""
    return None, ((0, document),)


def badness_at(width, column, written, broken):
    """Return the BADNESS that a move adds which writes something at a column."""
    begin = 0 if column is None else column
    over = over_of(" " * begin + written, width) - max(begin - width, 0)
    return over, written.count("\n"), broken


def moves(width, stand):
    """Return the list of the MOVES from a STAND."""
    column, rest = stand
    if rest == ():
        return []
    indent, document = rest[0]
    flat = flat_text(document) if document[0] == "group" else None
    return [
        (written, badness_at(width, column, written, broken), (behind, left + rest[1:]))
        for written, behind, left, broken in steps(column, indent, document, flat)
    ]


def _is_count(thing):
    """Tell whether any value is an integer from 0 on."""
    return is_integer(thing) and thing >= 0


def is_laid_part(thing):
    """Tell whether any value is a tuple (indent, document) of a rest; the document is not looked at."""
    return isinstance(thing, tuple) and len(thing) == 2 and _is_count(thing[0])


def is_stand_form(thing):
    """Tell whether any value is a tuple of the form of a STAND; the documents in it are not looked at."""
    if not isinstance(thing, tuple) or len(thing) != 2:
        return False
    column, rest = thing
    if column is not None and not _is_count(column):
        return False
    return isinstance(rest, tuple) and all([is_laid_part(part) for part in rest])


def is_stand(thing):
    """Tell whether any value is a tuple of the form of a STAND."""
    return is_stand_form(thing) and all([is_document(document) for _, document in thing[1]])


def rest_size(stand):
    """Return an integer from 0 on that each move makes less."""
    return sum([folded(document, size_by) for _, document in stand[1]])
