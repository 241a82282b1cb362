"""Point 21: layouts, by their ways."""

import itertools
import unittest

from leastlaid.docs import choices_in
from leastlaid.errors import TooMany
from leastlaid.layouts import all_layouts, broken_by, layout_by, ways_by, ways_to
from tests import documents, plain_docs
from tests.documents import A, B, C, DEEP, LEAVES, LONG

GAP, HARD, BLANK, EMPTY = ("gap",), ("hard",), ("blank",), ("text", "")
LINE, SOFT = ("line", " "), ("line", "")
X, Y = ("text", "x"), ("text", "y")
# What moves write, told one by one: documents, and the texts of all their layouts.
WRITTEN = (
    (EMPTY, [""]), (("text", "  "), [""]), (("text", " a "), [" a "]), (A, ["a"]),
    (("row", (A, EMPTY)), ["a"]), (("row", (A, ("text", "  "))), ["a  "]), (("row", (("text", " "), A)), ["a"]),
    (("nest", 3, A), ["   a"]), (("nest", 3, EMPTY), [""]), (("nest", 3, ("text", "  ")), [""]),
    (("nest", 3, ("text", " a")), ["    a"]), (("nest", 3, ("row", (("text", " "), A))), ["   a"]),
    (("nest", 2, ("row", (A, ("text", "b"), HARD, ("text", "c")))), ["  ab\n  c"]),
    (("row", (A, HARD, ("nest", 2, ("row", (EMPTY, B))), B)), ["a\n  bbbb"]),
    (HARD, [""]), (SOFT, [""]), (LINE, [""]), (("row", (A, HARD)), ["a\n"]), (("row", (A, LINE)), ["a\n"]),
    (("row", (A, SOFT, SOFT, HARD, LINE, A)), ["a\na"]), (("row", (HARD, A)), ["a"]), (("row", (HARD, LINE, SOFT)), [""]),
    (("nest", 4, ("row", (A, HARD))), ["    a\n"]), (("nest", 4, ("row", (A, HARD, HARD, A))), ["    a\n    a"]),
    (BLANK, ["\n"]), (("row", (A, BLANK)), ["a\n\n"]), (("row", (A, HARD, BLANK)), ["a\n\n"]), (("row", (BLANK, BLANK)), ["\n\n"]),
    (("row", (A, BLANK, HARD, A)), ["a\n\na"]), (("nest", 2, ("row", (BLANK, A, BLANK, A))), ["\n  a\n\n  a"]),
    (("row", (A, ("nest", 2, HARD), B)), ["a\nbb"]), (("row", (A, ("nest", 2, ("row", (HARD, B))), HARD, C)), ["a\n  bb\nccc"]),
    (("nest", 1, ("row", (A, ("nest", 2, ("row", (HARD, B))), HARD, C))), [" a\n   bb\n ccc"]),
    (("row", (C, ("align", ("row", (A, HARD, B))), HARD, A)), ["ccca\n   bb\na"]),
    (("align", ("row", (A, HARD, B))), ["a\nbb"]), (("nest", 2, ("align", ("row", (A, HARD, B)))), ["  a\n  bb"]),
    (("row", (A, HARD, ("nest", 2, ("align", ("row", (A, HARD, B)))))), ["a\n  a\n  bb"]),
    (("row", (B, ("align", ("nest", 1, ("row", (A, HARD, B)))))), ["bba\n   bb"]),
    (("row", (B, ("nest", 1, ("align", ("row", (A, HARD, B)))))), ["bba\n  bb"]),
    (("row", (A, ("align", ("row", (B, ("align", ("row", (HARD, A))), HARD, A))))), ["abb\n   a\n a"]),
    (("nest", 3, ("row", (EMPTY, ("align", ("row", (A, HARD, A)))))), ["   a\n   a"]),
    (("nest", 3, ("row", (("raw", ("b", "")), ("align", ("row", (A, HARD, A)))))), ["   b\na\na"]),
    (("group", A), ["a", "a"]), (("group", HARD), [""]), (("group", ("row", (A, HARD, LINE, B))), ["a\nbb"]),
    (("group", ("row", (A, LINE, B))), ["a bb", "a\nbb"]), (("group", ("row", (A, SOFT, B))), ["abb", "a\nbb"]),
    (("nest", 2, ("group", ("row", (A, LINE, B)))), ["  a bb", "  a\n  bb"]),
    (("group", ("row", (A, LINE, ("group", ("row", (B, LINE, C)))))), ["a bb ccc", "a\nbb ccc", "a\nbb\nccc"]),
    (("row", (A, ("group", LINE), B)), ["a bb", "a\nbb"]), (("row", (HARD, ("group", LINE), B)), ["bb", "bb"]),
    (("row", (A, HARD, ("group", ("row", (LINE, A))))), ["a\n a", "a\na"]),
    (("group", ("choice", ("row", (A, HARD, B)), C)), ["ccc", "a\nbb", "ccc"]),
    (("choice", A, B), ["a", "bb"]), (("choice", A, A), ["a", "a"]),
    (("nest", 1, ("choice", ("row", (A, HARD, A)), B)), [" a\n a", " bb"]),
    (("choice", ("choice", A, B), ("group", LINE)), ["a", "bb", "", ""]),
    (GAP, [""]), (("row", (A, GAP, B)), ["a bb", "a\nbb"]), (("row", (A, GAP)), ["a ", "a\n"]),
    (("row", (A, GAP, GAP, B)), ["a  bb", "a \nbb", "a\nbb"]), (("nest", 2, ("row", (A, GAP, B))), ["  a bb", "  a\n  bb"]),
    (("fill", ()), [""]), (("fill", (A,)), ["a"]), (("fill", (A, B)), ["a bb", "a\nbb"]),
    (("fill", (A, B, C)), ["a bb ccc", "a bb\nccc", "a\nbb ccc", "a\nbb\nccc"]),
    (("nest", 1, ("fill", (A, B))), [" a bb", " a\n bb"]), (("fill", (EMPTY, A)), ["a"]),
    (("fill", (HARD, A)), ["a"]), (("fill", (A, HARD)), ["a \n", "a\n"]), (("fill", (EMPTY, EMPTY, A)), ["a"]),
    (("fill", (("choice", A, B), C)), ["a ccc", "a\nccc", "bb ccc", "bb\nccc"]),
    (("row", ()), [""]), (("row", (A, B, C)), ["abbccc"]), (("row", (A, ("row", (B, ("row", ()))), C)), ["abbccc"]),
    (("raw", ("a", "b")), ["a\nb"]), (("raw", ("", "")), ["\n"]), (("raw", ("a", "", " b")), ["a\n\n b"]),
    (("nest", 3, ("raw", ("a", "b"))), ["   a\nb"]), (("nest", 3, ("raw", ("", "b", ""))), ["\nb\n"]),
    (("nest", 3, ("raw", ("  ", "b"))), ["\nb"]), (("row", (A, ("raw", ("  ", "b")))), ["a  \nb"]),
    (("row", (("raw", ("a", "")), HARD, B)), ["a\n\nbb"]), (("row", (("raw", ("a", "")), GAP, B)), ["a\n bb", "a\n\nbb"]),
    (("row", (("raw", ("a", "b")), HARD, B)), ["a\nb\nbb"]), (("nest", 2, ("row", (("raw", ("a", "")), B))), ["  a\nbb"]),
    (("nest", 2, ("row", (("raw", ("a", "")), ("text", " "), B))), ["  a\n bb"]),
    (("row", (("raw", ("a", "bcd")), ("align", ("row", (A, HARD, A))))), ["a\nbcda\n   a"]),
    (("group", ("raw", ("a", "b"))), ["a\nb"]), (("nest", 2, ("row", (A, HARD, ("raw", (" ", " "))))), ["  a\n\n "]),
    (("nest", 2, ("align", ("raw", ("a", "b")))), ["  a\nb"]),
)
# Documents in other words, which have the same layouts.
SAME = (
    (("row", (A, ("row", (GAP, C)))), ("row", (A, GAP, C))), (("row", (("row", (A, GAP)), C)), ("row", (A, GAP, C))),
    (("row", (("row", (("row", (A,)),)), GAP, ("row", ()), C)), ("row", (A, GAP, C))), (("row", (A,)), A),
    (("row", (EMPTY, A, EMPTY, LINE, EMPTY, GAP, EMPTY, B, EMPTY)), ("row", (A, LINE, GAP, B))),
    (("row", (A, ("fill", ()), GAP, ("raw", ("b", "")), EMPTY, HARD)), ("row", (A, GAP, ("raw", ("b", "")), HARD))),
    (("nest", 2, ("row", (A, LINE, EMPTY, ("text", "  "), B))), ("nest", 2, ("row", (A, LINE, B)))),
    (("nest", 2, ("nest", 3, ("fill", (A, B)))), ("nest", 5, ("fill", (A, B)))),
    (("align", ("align", ("fill", (A, B)))), ("align", ("fill", (A, B)))),
    (("row", (X, ("align", ("align", ("fill", (A, B)))))), ("row", (X, ("align", ("fill", (A, B)))))),
    (("row", (X, ("nest", 3, ("align", ("fill", (A, B)))))), ("row", (X, ("align", ("fill", (A, B)))))),
    (("nest", 2, ("row", (A, GAP, B))), ("row", (("nest", 2, A), ("nest", 2, GAP), ("nest", 2, B)))),
    (("fill", (A, B, C)), ("row", (A, GAP, B, GAP, C))), (("fill", (A, B)), ("row", (A, ("group", LINE), B))),
    (("fill", (A, HARD, C)), ("row", (A, GAP, HARD, GAP, C))), (("fill", (("fill", (A, B)), C)), ("fill", (A, B, C))),
    (("nest", 1, ("fill", (A, B))), ("nest", 1, ("row", (A, GAP, B)))), (("fill", (A, ("fill", (B, C)))), ("fill", (A, B, C))),
    (("row", (X, LINE, HARD, Y)), ("row", (X, HARD, Y))), (("row", (X, BLANK, SOFT, Y)), ("row", (X, HARD, BLANK, Y))),
    (("group", ("row", (A, LINE, HARD, B))), ("row", (A, LINE, HARD, B))), (("group", ("fill", (A, BLANK))), ("fill", (A, BLANK))),
    (("group", ("row", (A, LINE, B))), ("choice", ("text", "a bb"), ("row", (A, LINE, B)))),
    (("nest", 3, ("group", ("row", (LINE, A, SOFT, B, LINE)))), ("nest", 3, ("choice", ("text", " abb "), ("row", (LINE, A, SOFT, B, LINE))))),
    (("row", (X, ("group", ("fill", (A, B))))), ("row", (X, ("choice", ("text", "a bb"), ("fill", (A, B)))))),
    (("group", ("choice", HARD, B)), ("choice", B, ("choice", HARD, B))),
    (("group", ("nest", 2, ("align", ("row", (A, LINE, B))))), ("choice", ("text", "a bb"), ("nest", 2, ("align", ("row", (A, LINE, B)))))),
    (("choice", ("row", (X, A)), ("row", (X, B))), ("row", (X, ("choice", A, B)))),
)


def texts(document):
    return [text for _, text in all_layouts(document)]


class WhatIsWritten(unittest.TestCase):
    def test_each_move(self):
        for document, expected in WRITTEN:
            self.assertEqual(texts(document), expected, document)
            for ways, text in all_layouts(document):
                self.assertEqual(layout_by(document, ways), text)

    def test_broken_moves(self):
        for document, expected in (
                (A, [0]), (("choice", A, ("group", HARD)), [0, 1]), (("group", A), [0, 1]), (("group", HARD), [1]),
                (("group", ("group", HARD)), [2]), (("group", ("group", A)), [0, 1, 2]), (("fill", (A, B)), [0, 0]),
                (("row", (("group", LINE), ("group", LINE))), [0, 1, 1, 2]), (("group", ("choice", HARD, A)), [0, 1, 1])):
            self.assertEqual([broken_by(document, ways) for ways, _ in all_layouts(document)], expected, document)


class AllLayouts(unittest.TestCase):
    def check(self, document):
        expected = plain_docs.layouts(document)
        found = all_layouts(document)
        self.assertEqual(found, [(ways, text) for ways, text, _ in expected], document)
        self.assertEqual([ways for ways, _ in found], sorted({ways for ways, _ in found}))
        for ways, text, broken in expected:
            self.assertEqual(layout_by(document, ways), text)
            self.assertEqual(ways_by(document, ways), ways)
            self.assertEqual(broken_by(document, ways), broken)

    def test_small_ones(self):
        for document in documents.small_ones():
            self.check(document)

    def test_any_many(self):
        for document in documents.any_many(21, 400, most=6):
            self.check(document)
        for document in documents.any_many(121, 40, most=12, deep=7):
            expected = plain_docs.layouts(document)
            self.assertEqual(all_layouts(document), [(ways, text) for ways, text, _ in expected])

    def test_twelve(self):
        for document in (
                ("fill", (A,) * 13), ("row", (A,) + (GAP,) * 12), ("row", (("choice", A, B),) * 12), ("row", (("group", A),) * 12),
                ("row", (("fill", (A, B)), ("fill", ())) * 12), ("row", (X,) + (("choice", GAP, A),) * 6)):
            self.assertEqual(choices_in(document), 12)
            self.assertEqual(len(all_layouts(document)), len(plain_docs.layouts(document)))
        self.assertEqual(len(all_layouts(("row", (("choice", A, B),) * 12))), 2 ** 12)

    def test_more_than_twelve(self):
        nested = A
        for _ in range(13):
            nested = ("group", nested)
        for document in (
                ("fill", (A,) * 14), ("row", (A,) + (GAP,) * 13), ("row", (("choice", A, B),) * 13), ("row", (("group", HARD),) * 13),
                nested, ("row", (GAP,) * 13), ("fill", (("fill", (A,) * 7), ("fill", (A,) * 8))), ("nest", 2, ("fill", (HARD,) * 14))):
            self.assertEqual(choices_in(document), 14 if document[0] == "fill" and document[1][0][0] == "fill" else 13)
            with self.assertRaises(TooMany) as caught:
                all_layouts(document)
            self.assertEqual(caught.exception.most, 12)

    def test_the_list_is_the_callers(self):
        document = ("fill", (A, B))
        found = all_layouts(document)
        self.assertIs(type(found), list)
        found.append(None)
        found[0] = None
        self.assertEqual(all_layouts(document), [((0,), "a bb"), ((1,), "a\nbb")])

    def test_bounds(self):
        for document in (LONG, DEEP):
            expected = plain_docs.layouts(document)
            self.assertEqual(all_layouts(document), [(ways, text) for ways, text, _ in expected])
            ways, text, broken = expected[-1]
            self.assertEqual((layout_by(document, ways), ways_by(document, ways), broken_by(document, ways)), (text, ways, broken))
            self.assertEqual(ways_to(document, text), min(other for other, told, _ in expected if told == text))
            self.assertIsNone(ways_to(document, text + "a"))


class ByWays(unittest.TestCase):
    def test_short_and_long_ones(self):
        for document in documents.any_many(221, 150, most=5):
            expected = {ways: (text, broken) for ways, text, broken in plain_docs.layouts(document)}
            for size in range(8):
                for ways in itertools.product((0, 1), repeat=size):
                    if size > 5 and sum(ways) > 2:
                        continue
                    # Those of all layouts of which the ways, with 0 as often as asked for, begin with them.
                    whole = [other for other in expected if (ways + (0,) * 9)[:len(other)] == other]
                    self.assertEqual(len(whole), 1)
                    self.assertEqual(ways_by(document, ways), whole[0])
                    self.assertEqual((layout_by(document, ways), broken_by(document, ways)), expected[whole[0]])

    def test_kinds(self):
        document = ("row", (A, GAP, ("group", A)))
        self.assertEqual(repr(ways_by(document, (1,))), "(1, 0)")
        self.assertEqual(repr(ways_by(document, (1, 1, 0, 1))), "(1, 1)")
        self.assertEqual(repr(ways_by(A, (1, 1))), "()")
        self.assertEqual(repr(broken_by(document, (0, 1))), "1")

    def test_a_hundred_choices(self):
        document = ("fill", (A,) * 101)
        ways = (0, 1, 1, 0) * 25
        self.assertEqual(ways_by(document, ways), ways)
        self.assertEqual(layout_by(document, ways), "".join("a" + " \n"[way] for way in ways) + "a")
        self.assertEqual(ways_to(document, layout_by(document, ways)), ways)


class WaysTo(unittest.TestCase):
    def check(self, document):
        least = {}
        for ways, text, _ in plain_docs.layouts(document):
            least.setdefault(text, ways)
        for text, ways in least.items():
            self.assertEqual(ways_to(document, text), ways, (document, text))
            near = [text + "a", text + "\n", text + " ", text[:-1], text[1:], "a" + text, text.replace("a", "b", 1),
                    text.replace("\n", " ", 1), text.replace(" ", "\n", 1), text.replace(" ", "", 1), text.upper()]
            for other in near:
                self.assertEqual(ways_to(document, other), least.get(other), (document, other))

    def test_small_ones(self):
        for document in documents.small_ones():
            self.check(document)

    def test_any_many(self):
        for document in documents.any_many(321, 300, most=7):
            self.check(document)

    def test_texts_of_several_layouts(self):
        self.assertEqual(ways_to(("choice", A, A), "a"), (0,))
        self.assertEqual(ways_to(("choice", B, ("choice", A, A)), "a"), (1, 0))
        self.assertEqual(ways_to(("row", (("group", A), ("choice", A, A), ("group", B))), "aabb"), (0, 0, 0))
        self.assertEqual(ways_to(("choice", ("row", (A, GAP, GAP)), ("text", "a \n")), "a \n"), (0, 0, 1))
        self.assertEqual(ways_to(("row", (("choice", A, ("text", "aa")), ("choice", A, ("text", "aa")))), "aaa"), (0, 1))

    def test_none(self):
        for document in (A, ("fill", (A, B)), ("row", ())):
            for text in ("b", "a\n\nbb", "a  bb", "\n", "abb", "\t", "\u00e9"):
                self.assertIsNone(ways_to(document, text))

    def test_it_raises_nothing(self):
        document = ("row", (("fill", (A,) * 20), ("group", LINE), ("choice", A, B)))
        text = "a " * 10 + "a\n" * 10 + "bb"
        self.assertEqual(ways_to(document, text), (0,) * 10 + (1,) * 9 + (1, 1))
        self.assertIsNone(ways_to(document, text + "b"))
        self.assertEqual(ways_to(("row", (("group", A),) * 100), "a" * 100), (0,) * 100)
        self.assertIsNone(ways_to(("row", (("group", A),) * 100), "a" * 101))


class OtherWords(unittest.TestCase):
    def test_same_layouts(self):
        for one, other in SAME:
            self.assertEqual(all_layouts(one), all_layouts(other), one)
            # Blanks at the begin of a line stand in a FLAT text all the same.
            is_flat_too = plain_docs.flat(one) == plain_docs.flat(other)
            for put in documents.wrappers():
                if put(A)[0] == "group" and not is_flat_too:
                    continue
                self.assertEqual(texts(put(one)), texts(put(other)), put(one))
                self.assertEqual(texts(("row", (X, put(one), Y))), texts(("row", (X, put(other), Y))), put(one))

    def test_nest_by_none(self):
        for document in documents.any_many(421, 100, most=5) + list(LEAVES):
            found = all_layouts(document)
            self.assertEqual(all_layouts(("nest", 0, document)), found)
            self.assertEqual(all_layouts(("row", (document,))), found)
            self.assertEqual(all_layouts(("fill", (document,))), found)
            self.assertEqual(all_layouts(("row", (EMPTY, document, EMPTY, ("row", ()), ("fill", ())))), found)
            self.assertEqual(all_layouts(documents.nested(38, document)), found)
            self.assertEqual(texts(("choice", document, document)), texts(document) * 2)
            self.assertEqual(
                all_layouts(("choice", document, document)), [((at,) + ways, text) for at in (0, 1) for ways, text in found])

    def test_nests_in_one_another(self):
        for document in documents.any_many(521, 100) + list(LEAVES):
            self.assertEqual(all_layouts(("nest", 2, ("nest", 3, document))), all_layouts(("nest", 5, document)))
            self.assertEqual(all_layouts(("nest", 4, ("align", document))), all_layouts(("nest", 4, document)))
            self.assertEqual(
                all_layouts(("row", (B, ("nest", 7, ("align", document))))), all_layouts(("row", (B, ("align", document)))))

    def test_groups(self):
        for document in documents.any_many(621, 150, most=6) + list(LEAVES):
            found = all_layouts(("row", (X, ("group", document), Y)))
            flat = plain_docs.flat(document)
            if flat is None:
                self.assertEqual(found, all_layouts(("row", (X, document, Y))))
            else:
                self.assertEqual(found, all_layouts(("row", (X, ("choice", ("text", flat), document), Y))))

    def test_fills(self):
        for document in documents.any_many(721, 100, most=4):
            for many in range(4):
                parts = (A, document, C, B)[:many]
                between = tuple(part for item in parts for part in (GAP, item))[1:]
                self.assertEqual(all_layouts(("row", (X, ("fill", parts)))), all_layouts(("row", (X, ("row", between)))))


if __name__ == "__main__":
    unittest.main()
