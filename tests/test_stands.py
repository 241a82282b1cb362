"""Point 23: stands and moves."""

import itertools
import unittest

from leastlaid.stands import first_stand, is_stand, moves, rest_size
from tests import documents, plain_docs
from tests.documents import A, B, C, DEEP, LEAVES, LONG, WIDE
from tests.values import OTHERS, STRANGE

HARD, GAP, FLAT = ("hard",), ("gap",), ("row", (A, ("line", " "), B))
NO_WORSE = (0, 0, 0)
REST = ((7, A), (0, HARD))
# Width 8; columns at the begin of a line, below the width, at it, and beyond: (column, (indent, document)) and the moves.
MOVES = (
    (None, (3, ("text", "ab")), [("   ab", NO_WORSE, 5, ())]), (None, (3, ("text", "abcdefgh")), [("   abcdefgh", (3, 0, 0), 11, ())]),
    (None, (9, ("text", "ab")), [("         ab", (3, 0, 0), 11, ())]), (None, (3, ("text", "")), [("", NO_WORSE, None, ())]),
    (None, (3, ("text", "   ")), [("", NO_WORSE, None, ())]), (None, (0, ("text", " a ")), [(" a ", NO_WORSE, 3, ())]),
    (0, (3, ("text", "ab")), [("ab", NO_WORSE, 2, ())]), (5, (3, ("text", "abc")), [("abc", NO_WORSE, 8, ())]),
    (5, (3, ("text", "abcd")), [("abcd", (1, 0, 0), 9, ())]), (8, (3, ("text", "ab")), [("ab", (2, 0, 0), 10, ())]),
    (20, (0, ("text", "ab")), [("ab", (2, 0, 0), 22, ())]), (7, (3, ("text", "")), [("", NO_WORSE, 7, ())]),
    (0, (3, ("text", "")), [("", NO_WORSE, 0, ())]), (7, (3, ("text", "   ")), [("   ", (2, 0, 0), 10, ())]),
    (20, (0, ("text", "")), [("", NO_WORSE, 20, ())]),
    (None, (3, ("blank",)), [("\n", (0, 1, 0), None, ())]), (0, (3, ("blank",)), [("\n\n", (0, 2, 0), None, ())]),
    (9, (3, ("blank",)), [("\n\n", (0, 2, 0), None, ())]),
    (None, (3, ("nest", 2, A)), [("", NO_WORSE, None, ((5, A),))]), (4, (3, ("nest", 2, A)), [("", NO_WORSE, 4, ((5, A),))]),
    (9, (3, ("nest", 0, A)), [("", NO_WORSE, 9, ((3, A),))]),
    (None, (3, ("align", A)), [("", NO_WORSE, None, ((3, A),))]), (5, (3, ("align", A)), [("", NO_WORSE, 5, ((5, A),))]),
    (0, (3, ("align", A)), [("", NO_WORSE, 0, ((0, A),))]), (12, (3, ("align", A)), [("", NO_WORSE, 12, ((12, A),))]),
    (None, (3, ("group", FLAT)), [("", NO_WORSE, None, ((3, ("text", "a bb")),)), ("", (0, 0, 1), None, ((3, FLAT),))]),
    (9, (3, ("group", FLAT)), [("", NO_WORSE, 9, ((3, ("text", "a bb")),)), ("", (0, 0, 1), 9, ((3, FLAT),))]),
    (4, (3, ("group", ("row", ()))), [("", NO_WORSE, 4, ((3, ("text", "")),)), ("", (0, 0, 1), 4, ((3, ("row", ())),))]),
    (4, (3, ("group", ("choice", HARD, B))), [
        ("", NO_WORSE, 4, ((3, ("text", "bb")),)), ("", (0, 0, 1), 4, ((3, ("choice", HARD, B)),))]),
    (None, (3, ("group", HARD)), [("", (0, 0, 1), None, ((3, HARD),))]), (9, (3, ("group", HARD)), [("", (0, 0, 1), 9, ((3, HARD),))]),
    (9, (3, ("group", ("align", ("raw", ("a", "b"))))), [("", (0, 0, 1), 9, ((3, ("align", ("raw", ("a", "b")))),))]),
    (None, (3, ("choice", A, B)), [("", NO_WORSE, None, ((3, A),)), ("", NO_WORSE, None, ((3, B),))]),
    (9, (3, ("choice", A, A)), [("", NO_WORSE, 9, ((3, A),)), ("", NO_WORSE, 9, ((3, A),))]),
    (None, (3, GAP), [("", NO_WORSE, None, ())]), (0, (3, GAP), [(" ", NO_WORSE, 1, ()), ("\n", (0, 1, 0), None, ())]),
    (7, (3, GAP), [(" ", NO_WORSE, 8, ()), ("\n", (0, 1, 0), None, ())]),
    (8, (3, GAP), [(" ", (1, 0, 0), 9, ()), ("\n", (0, 1, 0), None, ())]),
    (None, (3, ("fill", ())), [("", NO_WORSE, None, ())]), (9, (3, ("fill", ())), [("", NO_WORSE, 9, ())]),
    (9, (3, ("fill", (A,))), [("", NO_WORSE, 9, ((3, A),))]),
    (9, (3, ("fill", (A, B))), [("", NO_WORSE, 9, ((3, A), (3, GAP), (3, ("fill", (B,)))))]),
    (None, (3, ("fill", (A, B, C))), [("", NO_WORSE, None, ((3, A), (3, GAP), (3, ("fill", (B, C)))))]),
    (None, (3, ("row", ())), [("", NO_WORSE, None, ())]), (9, (3, ("row", ())), [("", NO_WORSE, 9, ())]),
    (None, (3, ("row", (A,))), [("", NO_WORSE, None, ((3, A),))]),
    (9, (3, ("row", (A, B, C))), [("", NO_WORSE, 9, ((3, A), (3, B), (3, C)))]),
    (None, (3, ("raw", ("a", "b"))), [("   a\nb", (0, 1, 0), 1, ())]), (9, (3, ("raw", ("a", "b"))), [("a\nb", (1, 1, 0), 1, ())]),
    (None, (3, ("raw", ("", ""))), [("\n", (0, 1, 0), 0, ())]), (4, (3, ("raw", ("", "b", ""))), [("\nb\n", (0, 2, 0), 0, ())]),
    (None, (3, ("raw", ("  ", "b"))), [("\nb", (0, 1, 0), 1, ())]), (7, (3, ("raw", ("  ", "b"))), [("  \nb", (1, 1, 0), 1, ())]),
    (6, (9, ("raw", ("abc", "abcdefghij", " "))), [("abc\nabcdefghij\n ", (3, 2, 0), 1, ())]),
    (None, (7, ("raw", ("abc", "abcdefghijk"))), [("       abc\nabcdefghijk", (5, 1, 0), 11, ())]),
) + tuple((column, (3, document), [(written, (0, len(written), 0), None, ())])
          for document in (HARD, ("line", ""), ("line", " "))
          for column, written in ((None, ""), (0, "\n"), (1, "\n"), (8, "\n"), (9, "\n"), (20, "\n")))


class Moves(unittest.TestCase):
    def test_first_stand(self):
        for document in LEAVES + (LONG, DEEP):
            self.assertEqual(first_stand(document), (None, ((0, document),)))

    def test_each_sort(self):
        for column, part, expected in MOVES:
            for rest in ((), REST, ((3, A),) * 5):
                told = [(written, badness, (behind, left + rest)) for written, badness, behind, left in expected]
                self.assertEqual(moves(8, (column, (part,) + rest)), told, part)

    def test_no_rest(self):
        for column in (None, 0, 5, 500):
            self.assertEqual(moves(8, (column, ())), [])
            self.assertIs(type(moves(8, (column, ()))), list)

    def test_kinds(self):
        for stand in ((None, ((0, GAP),)), (3, ((0, ("raw", ("", ""))),))):
            for written, badness, behind in moves(8, stand):
                self.assertEqual(repr(badness), repr(tuple(int(part) for part in badness)))
                self.assertIs(is_stand(behind), True)

    def test_the_list_is_the_callers(self):
        stand = (4, ((3, GAP),))
        found = moves(8, stand)
        found.clear()
        self.assertEqual(len(moves(8, stand)), 2)

    def test_over_is_added_sign_by_sign(self):
        for column, size, width in itertools.product((None, 0, 5, 7, 8, 9, 15), range(12), (8, 10)):
            begin = 0 if column is None else column
            text = "x" * size
            over = sum(at >= width for at in range(begin, begin + size))
            self.assertEqual(moves(width, (column, ((0, ("text", text)),)))[0][1], (over, 0, 0))


class IsStand(unittest.TestCase):
    def check(self, thing, expected):
        self.assertIs(is_stand(thing), expected, thing)

    def test_stands(self):
        for column in (None, 0, 1, 8, 10 ** 30):
            for rest in ((), ((0, A),), ((10 ** 30, HARD), (0, DEEP)), ((0, A),) * 50, ((2, LONG),)):
                self.check((column, rest), True)
        for document in documents.any_many(23, 100):
            self.check(first_stand(document), True)

    def test_each_part_otherwise(self):
        for column in (-1, True, False, "", "0", (), [], {}, (0,), -(10 ** 30)):
            self.check((column, ()), False)
            self.check((column, ((0, A),)), False)
        for rest in (None, [], {}, "", 0, True, A, (0, A), [(0, A)], ((0, A), None), ((0, A), ()), ((0, A), A), ([0, A],), ((0,),), ((A,),),
                     ((0, A, B),), ((A, 0),), ((None, A),), ((-1, A),), ((True, A),), ((False, A),), (("0", A),), ((0, None),), ((0, "a"),),
                     ((0, ("text",)),), ((0, ("text", "a\n")),), ((0, ["text", "a"]),), ((0, (A,)),), ((0, ("nest", True, A)),),
                     ((0, A), (0, ("row", [A]))), ((0, ("group", ("nest", -1, A))),), ((1, ()),)):
            self.check((None, rest), False)
            self.check((4, rest), False)
            self.check((4, rest + ((0, A),) if isinstance(rest, tuple) else rest), False)
        for thing in ((), (None,), ((),), (None, (), ()), [None, ()], ((), None), (((0, A),), 4), A, None, (None, ((0, A),), None)):
            self.check(thing, False)

    def test_any_value(self):
        for thing in OTHERS + STRANGE:
            self.check(thing, False)
            self.check((thing, ()), (isinstance(thing, int) and not isinstance(thing, bool) and thing >= 0) or thing is None)
            self.check((None, thing), thing == ())
            self.check((None, (thing,)), False)
            self.check((None, ((0, thing),)), False)
            self.check((None, ((thing, A),)), isinstance(thing, int) and not isinstance(thing, bool) and thing >= 0)


class AlongLayouts(unittest.TestCase):
    """The moves make the texts and the badnesses that go through documents by calls."""

    def walk(self, width, document):
        """All layouts by moves: (ways, text, badness), depth first."""
        todo = [((), "", (0, 0, 0), first_stand(document))]
        while todo:
            ways, text, badness, stand = todo.pop()
            found = moves(width, stand)
            self.assertIn(len(found), (0, 1, 2))
            if not found:
                self.assertEqual(stand[1], ())
                yield ways, text, badness
            for place in reversed(range(len(found))):
                written, more, behind = found[place]
                self.assertLess(rest_size(behind), rest_size(stand))
                taken = ways + (place,) if len(found) == 2 else ways
                todo.append((taken, text + written, tuple(map(sum, zip(badness, more))), behind))

    def check(self, document, widths):
        for width in widths:
            expected = [(ways, text, plain_docs.badness(width, text, broken)) for ways, text, broken in plain_docs.layouts(document)]
            self.assertEqual(list(self.walk(width, document)), expected, repr(document)[:500])

    def test_small_ones(self):
        for document in documents.small_ones():
            self.check(document, (2, 8))

    def test_any_many(self):
        for document in documents.any_many(123, 150, most=5):
            self.check(document, (1, 8, 13))

    def test_bounds(self):
        self.check(DEEP, (8,))
        self.check(("nest", 3, ("row", (("fill", (A, B, C)),) + (A, HARD) * 295)), (9,))


class RestSize(unittest.TestCase):
    def test_nothing_left(self):
        for column in (None, 0, 9):
            self.assertEqual(repr(rest_size((column, ()))), "0")
            self.assertGreater(rest_size((column, ((0, ("row", ())),))), 0)

    def test_less_behind_each_move(self):
        for column, part, _ in MOVES:
            for rest in ((), REST):
                stand = (column, (part,) + rest)
                for _, _, behind in moves(8, stand):
                    self.assertLess(rest_size(behind), rest_size(stand), part)
                    self.assertGreaterEqual(rest_size(behind), 0)
        for document in (LONG, WIDE, DEEP, ("fill", (A,) * 599), ("fill", (("fill", ()),) * 50), documents.nested(600, A)):
            stand = first_stand(document)
            while stand[1]:
                behind = moves(8, stand)[-1][2]
                self.assertLess(rest_size(behind), rest_size(stand))
                stand = behind


if __name__ == "__main__":
    unittest.main()
