"""Point 24: tables, and what point 8 says of them."""

import unittest

from leastlaid.badness import best_by_all
from leastlaid.errors import TooMany
from leastlaid.layouts import layout_by
from leastlaid.stands import first_stand, is_stand, moves
from leastlaid.tables import best_moves, laid, least_badness, stands_of, table_of, text_by
from tests import documents, plain_docs
from tests.documents import A, B, C, DEEP, LEAVES, LONG, RANKS, WIDE

RANK = RANKS[0]
WIDTHS = (8, 9, 11, 15, 22, 40, 120)
HARD, GAP, LINE = ("hard",), ("gap",), ("line", " ")
CALL = ("group", ("row", (("text", "call("), ("nest", 2, ("row", (("line", ""), ("text", "alpha,"), LINE, ("text", "beta")))),
                          ("line", ""), ("text", ")"))))


def with_stands(many):
    """A document with so many stands, if that is more than 19,711."""
    choices = tuple(("choice", ("text", "x" * 2 ** at), ("text", "")) for at in range(7))
    return ("row", choices + (A,) * 150 + (HARD,) + (A,) * (many - 19711))


def come_to(width, document):
    """All stands that moves come to, by how Python shows them, with their moves."""
    found = {}
    todo = [first_stand(document)]
    while todo:
        stand = todo.pop()
        if repr(stand) not in found:
            found[repr(stand)] = moves(width, stand)
            todo.extend(behind for _, _, behind in found[repr(stand)])
    return found


def by_moves(width, document, places):
    """The text and the badness of a layout, by the moves themselves."""
    stand, text, badness = first_stand(document), "", (0, 0, 0)
    for place in places:
        written, more, stand = moves(width, stand)[place]
        text, badness = text + written, tuple(map(sum, zip(badness, more)))
    return text, badness, stand


class Stands(unittest.TestCase):
    def check(self, document):
        expected = come_to(8, document)
        stands = stands_of(8, document)
        self.assertIs(type(stands), list)
        places = {repr(stand): at for at, stand in enumerate(stands)}
        self.assertEqual(len(places), len(stands))
        self.assertEqual(set(places), set(expected))
        self.assertEqual(stands[0], first_stand(document))
        for stand in places:
            for _, _, behind in expected[stand]:
                self.assertLess(places[stand], places[repr(behind)])

    def test_few(self):
        self.assertEqual(stands_of(8, A), [(None, ((0, A),)), (1, ())])
        self.assertEqual(stands_of(8, ("nest", 2, A)), [(None, ((0, ("nest", 2, A)),)), (None, ((2, A),)), (3, ())])
        self.assertEqual(sorted(stands_of(8, ("choice", HARD, A))[1:3]), [(None, ((0, HARD),)), (None, ((0, A),))])
        self.assertEqual(len(stands_of(8, ("choice", A, A))), 3)
        self.assertEqual(len(stands_of(8, ("choice", A, ("text", "b")))), 4)
        self.assertEqual(len(stands_of(8, ("row", (("text", ""),) * 5))), 7)
        self.assertEqual(len(stands_of(12, CALL)), 14)

    def test_small_ones(self):
        for document in documents.small_ones()[::2]:
            self.check(document)

    def test_any_many(self):
        for document in documents.any_many(24, 150, most=20, deep=7) + [LONG, DEEP]:
            self.check(document)

    def test_the_width_changes_none(self):
        for document in documents.any_many(124, 30):
            self.assertEqual(stands_of(8, document), stands_of(120, document))

    def test_equal_documents_are_one(self):
        # Equal documents at several places: stands are the same if their rests are.
        same = ("row", (A, ("row", (A, B))))
        document = ("choice", ("row", (("text", "xx"), same, C)), ("row", (("text", "yy"), ("row", (A, ("row", (A, B)))), C)))
        self.check(document)
        self.assertEqual(len(stands_of(8, document)), 3 + 2 + 7)

    def test_the_list_is_the_callers(self):
        found = stands_of(8, CALL)
        kept = list(found)
        found.clear()
        self.assertEqual(stands_of(8, CALL), kept)


class Tables(unittest.TestCase):
    def check(self, width, rank, document):
        table = table_of(width, rank, document)
        self.assertIs(type(table), tuple)
        self.assertEqual([stand for stand, _ in table], stands_of(width, document))
        for stand, badness in table:
            self.assertIs(is_stand(stand), True)
            told = plain_docs.from_stand(width, stand)
            self.assertEqual(badness, min(told, key=lambda one: plain_docs.key(rank, one)), stand)
        self.assertEqual(table[0][1], least_badness(width, rank, document))

    def test_all_sorts(self):
        for document in LEAVES + (CALL,):
            for rank in RANKS:
                for width in (8, 12):
                    self.check(width, rank, document)

    def test_small_ones(self):
        for at, document in enumerate(documents.small_ones()[::4]):
            self.check(8, RANKS[at % 6], document)

    def test_any_many(self):
        for at, document in enumerate(documents.any_many(224, 90, most=6)):
            self.check(WIDTHS[at % 4], RANKS[at % 6], document)

    def test_each_is_what_the_moves_ask_for(self):
        for document in documents.any_many(324, 40, most=30, deep=8) + [LONG, DEEP]:
            for rank in RANKS[::2]:
                table = table_of(9, rank, document)
                told = {repr(stand): badness for stand, badness in table}
                for stand, badness in table:
                    sums = [tuple(map(sum, zip(more, told[repr(behind)]))) for _, more, behind in moves(9, stand)]
                    self.assertEqual(badness, min(sums, key=lambda one: plain_docs.key(rank, one), default=(0, 0, 0)))

    def test_kinds(self):
        for stand, badness in table_of(12, RANK, CALL):
            self.assertEqual(repr(badness), repr(tuple(int(part) for part in badness)))
            self.assertIs(type(stand), tuple)


class Best(unittest.TestCase):
    def check(self, width, rank, document):
        badness, ways, text = best_by_all(width, rank, document)
        self.assertEqual(least_badness(width, rank, document), badness)
        self.assertEqual(laid(width, rank, document), text)
        places = best_moves(width, rank, document)
        self.assertIs(type(places), tuple)
        self.assertEqual(text_by(width, document, places), (text, badness))
        told, more, stand = by_moves(width, document, places)
        self.assertEqual((told, more, stand[1]), (text, badness, ()))
        # Of the places those at stands with two moves are the ways.
        taken, stand = [], first_stand(document)
        for place in places:
            found = moves(width, stand)
            if len(found) == 2:
                taken.append(place)
            stand = found[place][2]
        self.assertEqual(tuple(taken), ways)

    def test_small_ones(self):
        for at, document in enumerate(documents.small_ones()):
            self.check(8, RANKS[at % 6], document)

    def test_any_many(self):
        for document in documents.any_many(424, 60, most=7, deep=6):
            for rank in RANKS:
                for width in WIDTHS:
                    self.check(width, rank, document)

    def test_every_width(self):
        words = ("fill", tuple(("text", "abcdefghijklm"[at % 9:]) for at in range(12)))
        inner = ("group", ("row", (("text", "call("), ("nest", 4, words), ("line", ""), ("text", ")"))))
        for width in range(8, 121):
            self.check(width, RANK, inner)

    def test_alike_ones(self):
        # All are as bad as one another, so the first one is asked for.
        for document, places, text in (
                (("choice", A, ("text", "b")), (0, 0), "a"), (("choice", HARD, ("text", "")), (0, 0), ""),
                (("row", (("choice", A, A), ("choice", A, A))), (0, 0, 0, 0, 0), "aa"),
                (("fill", (("text", "abcd"),) * 3), (0, 0, 0, 0, 0, 1, 0, 0), "abcd abcd\nabcd"),
                (("choice", ("row", (A, HARD, B)), ("row", (B, HARD, A))), (0, 0, 0, 0, 0), "a\nbb"),
                (("row", (A, ("choice", ("choice", GAP, ("text", "x")), GAP), B)), (0, 0, 0, 0, 0, 0), "a bb")):
            self.assertEqual(best_moves(9, RANK, document), places)
            self.assertEqual(laid(9, RANK, document), text)
            self.check(9, RANK, document)

    def test_ranks_ask_for_others(self):
        document = ("group", ("row", (("text", "abcdefgh"), LINE, ("text", "ij"), LINE, ("text", "kl"))))
        for rank in RANKS:
            is_flat = rank[0] != "over"
            self.assertEqual(laid(9, rank, document), "abcdefgh ij kl" if is_flat else "abcdefgh\nij\nkl")
            self.assertEqual(least_badness(9, rank, document), (5, 0, 0) if is_flat else (0, 2, 1))

    def test_few(self):
        self.assertEqual(laid(8, RANK, ("row", ())), "")
        self.assertEqual(best_moves(8, RANK, ("row", ())), (0,))
        self.assertEqual(least_badness(8, RANK, ("row", ())), (0, 0, 0))
        self.assertEqual(text_by(8, A, (0,)), ("a", (0, 0, 0)))


class TextBy(unittest.TestCase):
    def test_layouts_that_are_not_best(self):
        for document in documents.any_many(524, 60, most=5) + [CALL]:
            todo = [((), first_stand(document))]
            seen = []
            while todo:
                places, stand = todo.pop()
                found = moves(8, stand)
                todo.extend((places + (at,), found[at][2]) for at in reversed(range(len(found))))
                if not found:
                    text, badness, _ = by_moves(8, document, places)
                    self.assertEqual(text_by(8, document, places), (text, badness))
                    seen.append((text, badness))
            self.assertEqual(seen, [
                (text, plain_docs.badness(8, text, broken)) for _, text, broken in plain_docs.layouts(document)])

    def test_the_width_counts(self):
        places = best_moves(120, RANK, CALL)
        self.assertEqual(text_by(8, CALL, places), ("call(alpha, beta)", (9, 0, 0)))
        self.assertEqual(text_by(12, CALL, list(places)), ("call(alpha, beta)", (5, 0, 0)))
        self.assertEqual(text_by(120, CALL, (1,) + (0,) * 10), (layout_by(CALL, (1,)), (0, 3, 1)))

    def test_of_more_stands_than_are_gone_through(self):
        places = (0,) + (1, 0) * 9 + (0,) * 60
        text = "a" * 60
        self.assertEqual(text_by(8, WIDE, places), (text, (52, 0, 0)))
        self.assertEqual(text_by(8, ("row", (A,) * 5000), (0,) * 5001), ("a" * 5000, (4992, 0, 0)))


class More(unittest.TestCase):
    def test_too_many(self):
        for document in (WIDE, with_stands(20001), ("align", WIDE), ("row", (A, HARD, ("group", WIDE)))):
            for call in (
                    lambda: stands_of(20, document), lambda: table_of(20, RANK, document), lambda: least_badness(20, RANK, document),
                    lambda: best_moves(20, RANK, document), lambda: laid(20, RANK, document)):
                with self.assertRaises(TooMany) as caught:
                    call()
                self.assertEqual(caught.exception.most, 20000)

    def test_just_as_many_as_may_be(self):
        for many in (19711, 19999, 20000):
            document = with_stands(many)
            stands = stands_of(20, document)
            self.assertEqual(len(stands), many)
            # Nothing is written by the choices but x, which may be left out.
            self.assertEqual(least_badness(20, RANK, document), (130 + max(many - 19711 - 20, 0), 1, 0))
        self.assertEqual(len(come_to(20, document)), 20000)
        self.assertEqual(len(table_of(20, RANK, document)), 20000)
        self.assertEqual(laid(20, RANK, document), "a" * 150 + "\n" + "a" * 289)
        self.assertEqual(len(best_moves(20, RANK, document)), 1 + 14 + 150 + 1 + 289)

    def test_bounds(self):
        for document in (LONG, DEEP):
            for rank in RANKS:
                self.assertEqual(laid(20, rank, document), plain_docs.best(20, rank, document)[2])
        aligned = A
        for at in range(2):
            aligned = ("align", ("row", (("text", "abc"), ("fill", (A, B, C)), aligned, ("group", ("row", (A, LINE, B))))))
        aligned = documents.nested(20, aligned)
        for rank in RANKS:
            self.assertEqual(laid(8, rank, aligned), plain_docs.best(8, rank, aligned)[2])

    def test_long_documents(self):
        document = ("nest", 2, ("row", (("text", "abc"), LINE) * 290))
        self.assertEqual(laid(8, RANK, document), "  abc\n" * 290)
        flat = ("group", ("row", (("text", "abc"), LINE) * 295))
        self.assertEqual(laid(8, ("lines", "over", "broken"), flat), "abc " * 295)
        fill = ("fill", (("text", "abcd"),) * 80)
        self.assertEqual(laid(9, RANK, fill), "\n".join(["abcd abcd"] * 40))


if __name__ == "__main__":
    unittest.main()
