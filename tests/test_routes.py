"""Routes: the first best layout of documents without aligns, however many stands they have."""

import unittest

from leastlaid.routes import Route
from leastlaid.tables import laid, least_badness
from tests import documents, plain_docs
from tests.documents import A, B, C, LEAVES, RANKS, WIDE

RANK = RANKS[0]
WIDTHS = (1, 2, 3, 5, 8, 9, 11, 15, 22, 40, 120)


def has_align(document):
    return document[0] == "align" or any(has_align(part) for part in plain_docs.inside(document))


def without_aligns(found):
    return [document for document in found if not has_align(document)]


class Routes(unittest.TestCase):
    def check(self, width, rank, document):
        route = Route(width, rank, document)
        badness, _, text = plain_docs.best(width, rank, document)
        self.assertEqual((route.badness(), route.text()), (badness, text), (width, rank, document))
        self.assertIs(type(route.badness()), tuple)

    def test_small_ones(self):
        for at, document in enumerate(without_aligns(documents.small_ones())):
            self.check(WIDTHS[at % 6], RANKS[at % 6], document)
            self.check(8, RANKS[at // 6 % 6], document)

    def test_all_widths_and_ranks(self):
        for document in without_aligns(LEAVES) + documents_of_all_sorts():
            for rank in RANKS:
                for width in WIDTHS:
                    self.check(width, rank, document)

    def test_any_many(self):
        for at, document in enumerate(without_aligns(documents.any_many(29, 1500, most=7, deep=6))):
            self.check(WIDTHS[at % 11], RANKS[at % 6], document)

    def test_against_tables(self):
        for at, document in enumerate(without_aligns(documents.any_many(129, 250, most=20, deep=7))):
            for rank in RANKS[:2]:
                route = Route(WIDTHS[at % 8], rank, document)
                self.assertEqual(route.text(), laid(WIDTHS[at % 8], rank, document))
                self.assertEqual(route.badness(), least_badness(WIDTHS[at % 8], rank, document))

    def test_columns_far_beyond_the_width(self):
        long = ("text", "x" * 300)
        for document in (
                ("row", (long, ("choice", ("row", (A, ("hard",), B)), C), long)),
                ("row", (long, ("group", ("row", (A, ("line", " "), long, ("line", ""), B))))),
                ("fill", (long, A, long, B, C)),
                ("row", (long, ("choice", ("raw", ("yyyy", "zzzzzzzzzzzz")), ("raw", ("y", "zz"))), ("text", "abcdefg")))):
            for rank in RANKS:
                for width in (8, 120):
                    self.check(width, rank, document)

    def test_however_many_stands(self):
        # More stands than tables tell of; the least badness is known by itself.
        self.assertEqual(Route(8, RANK, WIDE).text(), "a" * 60)
        self.assertEqual(Route(8, RANK, WIDE).badness(), (52, 0, 0))
        words = ("fill", tuple(("text", "w" * (at % 7 + 1)) for at in range(600)))
        lines, line = [], ""
        for _, word in words[1]:
            if line and len(line) + 1 + len(word) > 60:
                lines.append(line)
                line = word
            else:
                line = (line + " " + word).strip()
        self.assertEqual(Route(60, RANK, words).badness(), (0, len(lines), 0))
        self.assertEqual(Route(60, ("lines", "over", "broken"), words).text(), " ".join(word for _, word in words[1]))

    def test_deep_and_long(self):
        document = A
        for _ in range(4000):
            document = ("row", (("group", ("nest", 1, document)),))
        self.assertEqual((Route(8, RANK, document).text(), Route(8, RANK, document).badness()), ("a", (0, 0, 0)))


def documents_of_all_sorts():
    call = ("group", ("row", (("text", "call("), ("nest", 2, ("row", (
        ("line", ""), ("text", "alpha,"), ("line", " "), ("text", "beta")))), ("line", ""), ("text", ")"))))
    return [
        call, ("row", (("text", "let x ="), ("choice", ("row", (("text", " "), call)), ("nest", 4, ("row", (("hard",), call)))))),
        ("row", (A, ("blank",), ("blank",), ("nest", 3, ("row", (("hard",), ("raw", ("bb", " c", "d")), ("gap",), C))))),
        ("group", ("row", (("text", " "), ("line", " "), ("text", "  "), A))),
    ]


if __name__ == "__main__":
    unittest.main()
