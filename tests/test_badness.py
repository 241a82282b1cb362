"""Point 22: badness."""

import itertools
import unittest

from leastlaid.badness import (
    badness_of, best_by_all, compared, is_badness, is_rank, over_of, ranked, sum_of)
from leastlaid.errors import TooMany
from leastlaid.layouts import broken_by, layout_by
from tests import documents, plain_docs
from tests.documents import A, B, C, DEEP, LONG, RANKS
from tests.values import OTHERS, STRANGE

BADNESSES = tuple(itertools.product(range(3), repeat=3))


class Kinds(unittest.TestCase):
    def test_ranks(self):
        self.assertEqual(len(RANKS), 6)
        for rank in RANKS:
            self.assertIs(is_rank(rank), True)
        for thing in (
                (), ("over",), ("over", "lines"), ("over", "lines", "lines"), ("over", "over", "over"), ("over", "lines", "broken", "over"),
                ("over", "lines", "broken", "more"), ["over", "lines", "broken"], "over lines broken", ("over lines broken",),
                ("over", "lines", "Broken"), ("over", "lines", ""), ("over", "lines", None), ("over", "lines", True), (0, 1, 2),
                ("over", "lines", ("broken",)), (("over", "lines", "broken"),), {"over": 0, "lines": 1, "broken": 2}, ("over", "lines", 2),
                ("over", "lines", "broken "), ("over", "lines", []), ({}, "over", "lines"), (None, None, None)):
            self.assertIs(is_rank(thing), False, thing)
        for words in itertools.product(("over", "lines", "broken", None), repeat=3):
            self.assertIs(is_rank(words), words in RANKS)

    def test_badnesses(self):
        for thing in BADNESSES + ((10 ** 30, 0, 0), (0, 10 ** 30, 5)):
            self.assertIs(is_badness(thing), True)
        for thing in (
                (), (0,), (0, 0), (0, 0, 0, 0), [0, 0, 0], "000", {0: 0, 1: 0, 2: 0}, ((0, 0, 0),), (("over", 0),) * 3,
                ("over", "lines", "broken")):
            self.assertIs(is_badness(thing), False, thing)
        for at in range(3):
            for other in (-1, True, False, None, "0", "", (), (0,), [], {}, -(10 ** 30), "\u0660"):
                thing = (0, 1, 2)[:at] + (other,) + (0, 1, 2)[at + 1:]
                self.assertIs(is_badness(thing), False, thing)

    def test_any_value(self):
        for thing in OTHERS + STRANGE:
            self.assertIs(is_rank(thing), False)
            self.assertIs(is_badness(thing), False)
            self.assertIs(is_rank((thing, thing, thing)), False)
            self.assertIs(is_rank(("over", "lines", thing)), False)
            self.assertIs(is_badness((0, thing, 0)), thing in (0, 1, 10 ** 39) and not isinstance(thing, bool))


class OverOf(unittest.TestCase):
    def test_lines(self):
        for text, width, expected in (
                ("", 1, 0), ("\n", 1, 0), ("\n\n\n", 1, 0), ("a", 1, 0), ("ab", 1, 1), ("ab\n", 1, 1), ("\nab", 1, 1), ("ab\nab", 1, 2),
                ("abcd\nab\nabc", 2, 3), ("abcd\n\n\nabc\n\n", 2, 3), ("    ", 2, 2), ("a   \n", 2, 2), ("a" * 4000, 1, 3999),
                ("a" * 4000, 4000, 0), ("a" * 4000, 5000, 0), ("a\n" * 2000, 1, 0), ("ab\n" * 1000, 1, 1000)):
            self.assertEqual(over_of(text, width), expected, text)

    def test_sign_by_sign(self):
        for signs in itertools.product("a \n", repeat=6):
            text = "".join(signs)
            for width in range(1, 7):
                self.assertEqual(over_of(text, width), plain_docs.badness(width, text, 0)[0])


class Comparing(unittest.TestCase):
    def test_sum_of(self):
        for one in BADNESSES:
            for other in ((0, 0, 0), (1, 20, 300), (5, 0, 0), (0, 0, 7)):
                self.assertEqual(sum_of(one, other), (one[0] + other[0], one[1] + other[1], one[2] + other[2]))
                self.assertEqual(sum_of(other, one), sum_of(one, other))

    def test_ranked(self):
        self.assertEqual([ranked(rank, (7, 8, 9)) for rank in (
            ("over", "lines", "broken"), ("over", "broken", "lines"), ("lines", "over", "broken"), ("lines", "broken", "over"),
            ("broken", "over", "lines"), ("broken", "lines", "over"))], [
                (7, 8, 9), (7, 9, 8), (8, 7, 9), (8, 9, 7), (9, 7, 8), (9, 8, 7)])
        self.assertIs(type(ranked(RANKS[0], (0, 0, 0))), tuple)

    def test_compared(self):
        for rank in RANKS:
            for one in BADNESSES:
                for other in BADNESSES:
                    first, second = plain_docs.key(rank, one), plain_docs.key(rank, other)
                    expected = -1 if first < second else 1 if first > second else 0
                    self.assertEqual(repr(compared(rank, one, other)), repr(expected))

    def test_it_is_by_the_first_that_differs(self):
        for rank in RANKS:
            first, second, third = (("over", "lines", "broken").index(word) for word in rank)
            worse = [0, 0, 0]
            worse[second], worse[third] = 100, 100
            better = [0, 0, 0]
            better[first] = 1
            self.assertEqual(compared(rank, tuple(worse), tuple(better)), -1)
            self.assertEqual(compared(rank, tuple(better), tuple(worse)), 1)


class BadnessOf(unittest.TestCase):
    def test_against_the_text(self):
        for document in documents.small_ones() + documents.any_many(22, 200, most=6) + [DEEP]:
            for ways, text, broken in plain_docs.layouts(document):
                for width in (1, 3, 8):
                    self.assertEqual(badness_of(width, document, ways), plain_docs.badness(width, text, broken))

    def test_short_and_long_ways(self):
        document = ("group", ("row", (B, ("line", " "), ("fill", (C, A)))))
        for size in range(5):
            for ways in itertools.product((0, 1), repeat=size):
                text, broken = layout_by(document, ways), broken_by(document, ways)
                self.assertEqual(badness_of(2, document, ways), plain_docs.badness(2, text, broken))
        self.assertEqual(badness_of(2, document, ()), (6, 0, 0))
        self.assertEqual(badness_of(2, document, (1, 1, 1)), (1, 2, 1))

    def test_line_ends(self):
        self.assertEqual(badness_of(9, ("row", (A, ("blank",), ("hard",), ("blank",), A)), ()), (0, 3, 0))
        self.assertEqual(badness_of(1, ("nest", 3, ("raw", ("a", "", "bb", ""))), ()), (4, 3, 0))
        self.assertEqual(badness_of(1, ("nest", 3, ("row", (("text", "  "), ("blank",), A))), ()), (3, 1, 0))


class BestByAll(unittest.TestCase):
    def check(self, document, widths=(1, 4, 6, 9, 40)):
        for rank in RANKS:
            for width in widths:
                self.assertEqual(best_by_all(width, rank, document), plain_docs.best(width, rank, document))

    def test_small_ones(self):
        for document in documents.small_ones()[::3]:
            self.check(document, (3, 8))

    def test_any_many(self):
        for document in documents.any_many(122, 120, most=7):
            self.check(document)

    def test_the_first_of_several(self):
        self.assertEqual(best_by_all(9, RANKS[0], ("choice", A, ("text", "b"))), ((0, 0, 0), (0,), "a"))
        self.assertEqual(best_by_all(9, RANKS[0], ("choice", ("hard",), ("text", "b"))), ((0, 0, 0), (0,), ""))
        self.assertEqual(best_by_all(5, RANKS[0], ("fill", (B, B, B))), ((0, 1, 0), (0, 1), "bb bb\nbb"))
        self.assertEqual(best_by_all(2, ("lines", "broken", "over"), ("group", ("row", (B, ("line", " "), B)))), ((3, 0, 0), (0,), "bb bb"))
        self.assertEqual(best_by_all(9, RANKS[0], ("row", (("group", A), ("group", ("hard",))))), ((0, 1, 1), (0,), "a\n"))

    def test_broken_count(self):
        document = ("choice", ("group", ("row", (A, ("hard",)))), ("row", (B, ("hard",))))
        self.assertEqual(best_by_all(9, RANKS[0], document), ((0, 1, 0), (1,), "bb\n"))
        self.assertEqual(best_by_all(1, ("broken", "lines", "over"), document), ((1, 1, 0), (1,), "bb\n"))
        self.assertEqual(best_by_all(1, RANKS[0], document), ((0, 1, 1), (0,), "a\n"))

    def test_more_than_twelve(self):
        for document in (("fill", (A,) * 14), ("row", (("group", A),) * 13), ("row", (("gap",),) * 13)):
            with self.assertRaises(TooMany) as caught:
                best_by_all(9, RANKS[0], document)
            self.assertEqual(caught.exception.most, 12)
        self.assertEqual(best_by_all(9, RANKS[0], ("row", (("gap",),) * 12)), ((0, 0, 0), (), ""))
        self.assertEqual(best_by_all(9, RANKS[0], ("row", (("choice", A, B),) * 12))[1], (0,) * 10 + (0, 0))

    def test_bounds(self):
        self.check(LONG, (20,))
        self.check(DEEP, (2, 8))


if __name__ == "__main__":
    unittest.main()
