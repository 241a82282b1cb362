"""Tables: the least badness at each stand of a document, and the best layout by them."""

from leastlaid.badness import ranked, sum_of
from leastlaid.errors import TooMany
from leastlaid.ledger import Ledger
from leastlaid.stands import badness_at

MOST_STANDS = 20000
NONE_BAD = (0, 0, 0)


def _moves_from(ledger, first):
    """Return the dict from all SPOTS that can be come to from a first one to the moves from there."""
    found = {}
    todo = [first]
    while todo:
        spot = todo.pop()
        if spot in found:
            continue
        if len(found) == MOST_STANDS:
            raise TooMany(MOST_STANDS)
        found[spot] = ledger.moves(spot)
        todo.extend([behind for _, _, behind in found[spot]])
    return found


def _in_order(ledger, spots):
    """Return the list of some SPOTS, none ahead of one that leads to it: each move makes their rest less."""
    return sorted(spots, key=lambda spot: -ledger.rest_sizes[spot[1]])


def _sums(width, spot, found, least):
    """Return the list of the badnesses of the moves from a SPOT, with the least ones behind them added."""
    return [
        sum_of(badness_at(width, spot[0], written, broken), least[behind])
        for written, broken, behind in found[spot]
    ]


def _solved(width, rank, document):
    """Return the ledger of a document, its SPOTS in order, the moves from each, and the least badness of each."""
    ledger = Ledger()
    found = _moves_from(ledger, ledger.first_spot(document))
    spots = _in_order(ledger, list(found))
    least = {}
    for spot in spots[::-1]:
        sums = _sums(width, spot, found, least)
        least[spot] = min(sums, key=lambda badness: ranked(rank, badness)) if sums else NONE_BAD
    return ledger, spots, found, least


def _stands(ledger, spots):
    """Return the list of the STANDS that some SPOTS tell."""
    rests = ledger.rest_tuples()
    return [(column, rests[rest]) for column, rest in spots]


def stands_of(width, document):
    """Return the list of all STANDS of a document, none ahead of one that leads to it."""
    ledger = Ledger()
    found = _moves_from(ledger, ledger.first_spot(document))
    return _stands(ledger, _in_order(ledger, list(found)))


def table_of(width, rank, document):
    """Return the TABLE of a document."""
    ledger, spots, _, least = _solved(width, rank, document)
    return tuple(zip(_stands(ledger, spots), [least[spot] for spot in spots]))


def least_badness(width, rank, document):
    """Return the BADNESS of the BEST LAYOUTS of a document."""
    _, spots, _, least = _solved(width, rank, document)
    return least[spots[0]]


def best_moves(width, rank, document):
    """Return the places of the moves of the FIRST of the BEST LAYOUTS of a document."""
    _, spots, found, least = _solved(width, rank, document)
    spot = spots[0]
    places = []
    while found[spot]:
        # The first place at which a sum is the least one.
        places.append(_sums(width, spot, found, least).index(least[spot]))
        spot = found[spot][places[-1]][2]
    return tuple(places)


def text_by(width, document, places):
    """Return the TEXT and the BADNESS of the LAYOUT that takes the moves at some places."""
    ledger = Ledger()
    spot = ledger.first_spot(document)
    texts = []
    badness = NONE_BAD
    for place in places:
        written, broken, behind = ledger.moves(spot)[place]
        texts.append(written)
        badness = sum_of(badness, badness_at(width, spot[0], written, broken))
        spot = behind
    return "".join(texts), badness


def laid(width, rank, document):
    """Return the TEXT of the FIRST of the BEST LAYOUTS of a document."""
    return text_by(width, document, best_moves(width, rank, document))[0]
