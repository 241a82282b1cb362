"""Layouts of documents, told by their WAYS: all that there are, one behind the other."""

from leastlaid.docs import choices_in
from leastlaid.errors import TooMany
from leastlaid.ledger import Ledger

MOST_CHOICES = 12


def walked(document, ways):
    """Return the text, the WAYS and the number of BROKEN moves of the layout that takes some ways."""
    ledger = Ledger()
    spot = ledger.first_spot(document)
    written = []
    taken = []
    many = 0
    while found := ledger.moves(spot):
        at = 0
        if len(found) == 2:
            at = ways[len(taken)] if len(taken) < len(ways) else 0
            taken.append(at)
        string, broken, spot = found[at]
        written.append(string)
        many += broken
    return "".join(written), tuple(taken), many


def layout_by(document, ways):
    """Return the TEXT of the LAYOUT that takes some ways."""
    return walked(document, ways)[0]


def ways_by(document, ways):
    """Return the WAYS of the LAYOUT that takes some ways."""
    return walked(document, ways)[1]


def broken_by(document, ways):
    """Return how many moves of the LAYOUT that takes some ways are BROKEN."""
    return walked(document, ways)[2]


def _run(ledger, spot):
    """Return what is written up to the next stand with two moves, how many are BROKEN, and the moves from there."""
    written = []
    many = 0
    found = ledger.moves(spot)
    while len(found) == 1:
        string, broken, behind = found[0]
        written.append(string)
        many += broken
        found = ledger.moves(behind)
    return "".join(written), many, found


def layouts_told(document):
    """Return the list of the WAYS, the text and the number of BROKEN moves of all layouts, ascending."""
    if choices_in(document) > MOST_CHOICES:
        raise TooMany(MOST_CHOICES)
    ledger = Ledger()
    # Many layouts come to the same stands, so what goes on there is kept.
    runs = {}
    found = []
    todo = [((), "", 0, ledger.first_spot(document))]
    while todo:
        ways, text, many, spot = todo.pop()
        if spot not in runs:
            runs[spot] = _run(ledger, spot)
        written, more, moves = runs[spot]
        if not moves:
            found.append((ways, text + written, many + more))
        for at in reversed(range(len(moves))):
            string, broken, behind = moves[at]
            todo.append((ways + (at,), text + written + string, many + more + broken, behind))
    return found


def all_layouts(document):
    """Return the list of the WAYS and the TEXT of all LAYOUTS of a document, ascending."""
    return [(ways, text) for ways, text, _ in layouts_told(document)]


def ways_to(document, text):
    """Return the least WAYS of a LAYOUT with a TEXT, None if there is none.

    Lesser ways are gone first, and none from a stand that was come to with as much of the text.
    """
    ledger = Ledger()
    seen = set()
    todo = [((), 0, ledger.first_spot(document))]
    while todo:
        ways, at, spot = todo.pop()
        if (at, spot) in seen:
            continue
        seen.add((at, spot))
        found = ledger.moves(spot)
        if not found and at == len(text):
            return ways
        for place in reversed(range(len(found))):
            written, _, behind = found[place]
            if text.startswith(written, at):
                taken = ways + (place,) if len(found) == 2 else ways
                todo.append((taken, at + len(written), behind))
    return None
