"""Ledgers: numbers for documents, and for what is still to be laid out.

A SPOT is a STAND told by numbers, a tuple (column, number of its rest): a short key, however deep its
documents are. The number of the rest () is 0.
"""

from leastlaid.docs import flat_by, folded, inner_documents, with_inner
from leastlaid.steps import size_by, steps


class Ledger:
    """What has been numbered: equal things have one number, others have others."""

    def __init__(self):
        # By the number of a document: with numbers for what stands in it, itself, and what is told of it.
        self.shapes = []
        self.documents = []
        self.flats = []
        self.sizes = []
        self.numbers = {}
        # By the number of a rest: the indent and the number of its first document, and the number of the others.
        self.rests = [()]
        self.rest_sizes = [0]
        self.rest_numbers = {}

    def numbered(self, shape):
        """Return the number of a document in which numbers stand for documents."""
        number = self.numbers.get(shape)
        if number is None:
            number = len(self.shapes)
            inner = inner_documents(shape)
            self.numbers[shape] = number
            self.shapes.append(shape)
            self.documents.append(with_inner(shape, [self.documents[part] for part in inner]))
            self.flats.append(flat_by(shape, [self.flats[part] for part in inner]))
            self.sizes.append(size_by(shape, [self.sizes[part] for part in inner]))
        return number

    def number_of(self, document):
        """Return the number of a document."""
        return folded(document, lambda now, inner: self.numbered(with_inner(now, inner)))

    def rest_behind(self, indent, number, others):
        """Return the number of the rest of which the first document and the number of the others are told."""
        key = (indent, number, others)
        rest = self.rest_numbers.get(key)
        if rest is None:
            rest = len(self.rests)
            self.rest_numbers[key] = rest
            self.rests.append(key)
            self.rest_sizes.append(self.sizes[number] + self.rest_sizes[others])
        return rest

    def _rest_with(self, left, others):
        """Return the number of the rest in which what a step leaves stands ahead of others."""
        rest = others
        for indent, document in left[::-1]:
            number = self.numbered(document) if isinstance(document, tuple) else document
            rest = self.rest_behind(indent, number, rest)
        return rest

    def first_spot(self, document):
        """Return the SPOT of the first STAND of a document."""
        return None, self.rest_behind(0, self.number_of(document), 0)

    def moves(self, spot):
        """Return the list of the moves from a SPOT: what is written, how many are BROKEN, the SPOT behind it."""
        column, rest = spot
        if rest == 0:
            return []
        indent, number, others = self.rests[rest]
        return [
            (written, broken, (behind, self._rest_with(left, others)))
            for written, behind, left, broken in steps(column, indent, self.shapes[number], self.flats[number])
        ]

    def rest_tuples(self):
        """Return the list of all rests that have been numbered, as they stand in STANDS."""
        found = [()]
        for indent, number, others in self.rests[1:]:
            found.append(((indent, self.documents[number]),) + found[others])
        return found
