"""The judge: it looks at a table stand by stand, and asks nobody how it was made."""

from leastlaid.badness import is_badness, over_of, ranked, sum_of
from leastlaid.docs import is_document
from leastlaid.ledger import Ledger
from leastlaid.stands import badness_at, is_stand_form


def _number_of(ledger, known, document):
    """Return the number of any value that is a document, None if it is none.

    The same documents stand in many stands, so what was looked at is known by how Python shows it:
    other than values themselves this tells 1 from True.
    """
    shown = repr(document)
    if shown not in known:
        known[shown] = ledger.number_of(document) if is_document(document) else None
    return known[shown]


def _spot_of(ledger, known, thing):
    """Return the SPOT of any value that is a STAND, None if it is none."""
    if not is_stand_form(thing):
        return None
    column, parts = thing
    rest = 0
    for indent, document in parts[::-1]:
        number = _number_of(ledger, known, document)
        if number is None:
            return None
        rest = ledger.rest_behind(indent, number, rest)
    return column, rest


def _told_by(ledger, thing):
    """Return the dict from SPOTS to the badnesses that any value tells, None if it is no tuple of such."""
    if not isinstance(thing, tuple):
        return None
    known = {}
    told = {}
    for entry in thing:
        if not isinstance(entry, tuple) or len(entry) != 2 or not is_badness(entry[1]):
            return None
        spot = _spot_of(ledger, known, entry[0])
        if spot is None or spot in told:
            return None
        told[spot] = entry[1]
    return told


def _is_right(width, rank, ledger, told, spot):
    """Tell whether the badness that is told of a SPOT is what its moves and those behind them ask for."""
    found = ledger.moves(spot)
    if not found:
        return told[spot] == (0, 0, 0)
    if not all([behind in told for _, _, behind in found]):
        return False
    sums = [
        ranked(rank, sum_of(badness_at(width, spot[0], written, broken), told[behind]))
        for written, broken, behind in found
    ]
    return ranked(rank, told[spot]) == min(sums)


def told_badness(width, rank, document, thing):
    """Return the badness that any value tells at the first stand of a document, None if it is no table of it."""
    ledger = Ledger()
    told = _told_by(ledger, thing)
    first = ledger.first_spot(document)
    if told is None or first not in told:
        return None
    if not all([_is_right(width, rank, ledger, told, spot) for spot in told]):
        return None
    return told[first]


def is_table(width, rank, document, thing):
    """Tell whether any value tells the least badness at each stand of a document, and at all that it tells of."""
    return told_badness(width, rank, document, thing) is not None


def has_layout(width, document, text, badness):
    """Tell whether some LAYOUT of a document has a TEXT and a BADNESS."""
    over, lines, most = badness
    if (over, lines) != (over_of(text, width), text.count("\n")):
        return False
    ledger = Ledger()
    seen = set()
    todo = [(0, ledger.first_spot(document), 0)]
    while todo:
        now = todo.pop()
        if now in seen:
            continue
        seen.add(now)
        at, spot, many = now
        found = ledger.moves(spot)
        if not found and at == len(text) and many == most:
            return True
        for written, broken, behind in found:
            if text.startswith(written, at) and many + broken <= most:
                todo.append((at + len(written), behind, many + broken))
    return False


def is_best(width, rank, document, text, thing):
    """Tell whether any value is a table of a document, and some LAYOUT has the text and the badness it tells."""
    badness = told_badness(width, rank, document, thing)
    return badness is not None and has_layout(width, document, text, badness)
