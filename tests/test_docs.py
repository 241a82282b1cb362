"""Point 20: documents."""

import unittest

from leastlaid.docs import choices_in, depth_of, flat_text, is_document, parts_in
from tests import documents, plain_docs
from tests.documents import A, B, C, DEEP, LEAVES, LONG, WIDE
from tests.values import OTHERS, STRANGE

WRONG = (
    (), [], "text", ("text",), ("text", "a", "b"), ("text", None), ("text", 1), ("text", True), ("text", ("a",)), ("text", "a\nb"),
    ("text", "\n"), ["text", "a"], ("Text", "a"), ("texts", "a"), (True, "a"), (None,), (A,), (("text",), "a"), ("text", ["a"]),
    ("line",), ("line", "  "), ("line", "a"), ("line", "\n"), ("line", None), ("line", True), ("line", 0), ("line", "", ""),
    ("line", ()), ("hard", ""), ("hard", ()), ("hard", A), ["hard"], "hard", ("hard", None), ("blank", ""), ("blank", 1), ["blank"],
    ("nest",), ("nest", 1), ("nest", A), ("nest", -1, A), ("nest", True, A), ("nest", False, A), ("nest", "1", A), ("nest", None, A),
    ("nest", (), A), ("nest", A, 1), ("nest", 1, None), ("nest", 1, "a"), ("nest", 1, A, B), ("nest", 1, (A,)), ("nest", 1, [A]),
    ("align",), ("align", None), ("align", A, B), ("align", (A,)), ("align", 1, A), ("align", "text"), ["align", A],
    ("group",), ("group", ()), ("group", A, B), ("group", (A, B)), ("group", []), ("group", True), ["group", A],
    ("choice",), ("choice", A), ("choice", (A, B)), ("choice", A, B, C), ("choice", A, None), ("choice", None, A),
    ("choice", A, "b"), ("choice", A, ()), ("choice", A, (B,)), ["choice", A, B],
    ("gap", ""), ("gap", " "), ("gap", None), ["gap"], ("gap", A), "gap",
    ("fill",), ("fill", A), ("fill", [A]), ("fill", A, B), ("fill", (A, None)), ("fill", ("text", "a")), ("fill", (A, "b")),
    ("fill", None), ("fill", (A,), ()), ("fill", ((A,),)), ("fill", "ab"), ("fill", {}), ("fill", ((),)),
    ("row",), ("row", A), ("row", [A, B]), ("row", A, B), ("row", (A, [])), ("row", ("hard",)), ("row", (A, "b")), ("row", None),
    ("row", ((A, B),)), ("row", {0: A}), ("row", ""), ("row", (A,), (B,)), ["row", (A,)],
    ("raw",), ("raw", ()), ("raw", ("a",)), ("raw", "ab"), ("raw", ["a", "b"]), ("raw", "a", "b"), ("raw", ("a", None)),
    ("raw", ("a", "b\n")), ("raw", ("\n", "b")), ("raw", ("a", "b", 1)), ("raw", (A, B)), ("raw", ("a", True)), ("raw", (("a", "b"),)),
    ("raw", ("a", "b"), ()), ("raw", None), ("words", "a"), ("None",), ("",), ("documents", ()), ("string", "a"), ("row ", ()),
)
RIGHT = LEAVES + (
    A, ("text", "a" * 4000), ("text", '"# <*'), ("nest", 0, A), ("nest", 1, A), ("nest", 10 ** 30, A), ("align", A), ("group", A),
    ("choice", A, A), ("choice", A, B), ("fill", (A,)), ("fill", (A, B)), ("fill", (A, A, A)), ("row", (A,)), ("row", (A, B, C)),
    ("raw", ("", "")), ("raw", ("a", "b", "c", "d")), DEEP, LONG, WIDE,
)


class IsDocument(unittest.TestCase):
    def check(self, thing, expected):
        self.assertIs(is_document(thing), expected, repr(thing)[:300])

    def test_each_sort(self):
        for document in RIGHT:
            self.check(document, True)
        for document in documents.small_ones():
            self.check(document, True)
        for document in documents.any_many(20, 300, most=50, deep=8):
            self.check(document, True)

    def test_one_thing_otherwise(self):
        for thing in WRONG:
            self.check(thing, False)

    def test_at_any_depth(self):
        wrappers = documents.wrappers()
        for thing in WRONG + OTHERS:
            for put in wrappers:
                self.check(put(thing), False)
                self.check(wrappers[1](put(thing)), False)
                self.check(wrappers[8](wrappers[13](put(thing))), False)
            self.check(documents.nested(37, thing), False)
        for document in RIGHT:
            for put in wrappers:
                self.check(put(document), True)
                self.check(wrappers[5](put(document)), True)

    def test_each_place(self):
        """Each place of documents, with something else there."""
        for document in RIGHT[:-3]:
            for at in range(len(document)):
                for other in (None, True, False, -1, [], {}, list(document), document[at:]):
                    self.check(document[:at] + (other,) + document[at + 1:], False)
                if document[0] in ("fill", "row", "raw") and at == 1:
                    for place in range(len(document[1])):
                        for other in (None, True, 1, (), [], {}):
                            inside = document[1][:place] + (other,) + document[1][place + 1:]
                            self.check((document[0], inside), False)
            self.check(document + (None,), False)
            self.check(document + (A,), False)
            self.check(document[:-1], False)
            self.check(list(document), False)

    def test_any_value(self):
        for thing in OTHERS + STRANGE:
            self.check(thing, False)
        self.check(("text", "\u00e9\t"), True)

    def test_what_is_told_stays(self):
        for thing in (["row", [A, {2: [3]}]], ("row", ([A], B)), ("fill", [A])):
            told = repr(thing)
            self.check(thing, False)
            self.assertEqual(repr(thing), told)

    def test_deeper_than_calls(self):
        self.assertIs(is_document(documents.nested(30000, A)), True)
        self.assertIs(is_document(documents.nested(30000, ("text",))), False)


class FlatText(unittest.TestCase):
    def test_each_sort(self):
        for document, expected in (
                (("text", ""), ""), (("text", " a "), " a "), (("line", ""), ""), (("line", " "), " "), (("hard",), None),
                (("blank",), None), (("gap",), " "), (("raw", ("a", "b")), None), (("raw", ("", "")), None),
                (("nest", 4, A), "a"), (("nest", 4, ("hard",)), None), (("align", B), "bb"), (("align", ("blank",)), None),
                (("group", C), "ccc"), (("group", ("raw", ("a", "b"))), None),
                (("choice", A, B), "a"), (("choice", ("hard",), B), "bb"), (("choice", ("hard",), ("blank",)), None),
                (("choice", A, ("hard",)), "a"), (("choice", ("text", ""), B), ""),
                (("choice", ("row", (A, ("hard",))), ("choice", ("blank",), C)), "ccc"),
                (("fill", ()), ""), (("fill", (A,)), "a"), (("fill", (A, B, C)), "a bb ccc"), (("fill", (A, ("hard",), B)), None),
                (("fill", (("text", ""), ("text", ""))), " "), (("fill", (("gap",), ("line", " "))), "   "),
                (("row", ()), ""), (("row", (A,)), "a"), (("row", (A, B, C)), "abbccc"), (("row", (A, ("blank",))), None),
                (("row", (("hard",), A)), None), (("row", (A, ("line", ""), ("line", " "), ("gap",), B)), "a  bb"),
                (("row", (A, ("fill", ()), ("row", ()), ("text", ""))), "a")):
            self.assertEqual(flat_text(document), expected, document)

    def test_in_one_another(self):
        for document in documents.small_ones() + documents.any_many(120, 400, most=50, deep=7) + [LONG, DEEP, WIDE]:
            self.assertEqual(flat_text(document), plain_docs.flat(document))


class Counts(unittest.TestCase):
    def check(self, document, parts, depth, choices):
        self.assertEqual((parts_in(document), depth_of(document), choices_in(document)), (parts, depth, choices), repr(document)[:300])

    def test_each_sort(self):
        for leaf in LEAVES:
            self.check(leaf, 1, 1, 1 if leaf == ("gap",) else 0)
            self.check(("nest", 7, leaf), 2, 2, choices_in(leaf))
            self.check(("align", leaf), 2, 2, choices_in(leaf))
            self.check(("group", leaf), 2, 2, 1 + choices_in(leaf))
            self.check(("choice", leaf, A), 3, 2, 1 + choices_in(leaf))
            self.check(("choice", leaf, leaf), 3, 2, 1 + 2 * choices_in(leaf))
        self.check(("fill", ()), 1, 1, 0)
        self.check(("fill", (A,)), 2, 2, 0)
        self.check(("fill", (A, B)), 3, 2, 1)
        self.check(("fill", (A, B, A, B, A)), 6, 2, 4)
        self.check(("fill", (("gap",), ("gap",))), 3, 2, 3)
        self.check(("row", ()), 1, 1, 0)
        self.check(("row", (A,)), 2, 2, 0)
        self.check(("row", (A, ("gap",), ("gap",), B)), 5, 2, 2)
        self.check(("row", (A, ("nest", 2, ("row", (A,))))), 5, 4, 0)
        self.check(("choice", A, ("align", A)), 4, 3, 1)
        self.check(("choice", ("align", A), A), 4, 3, 1)
        self.check(("fill", (("fill", (A, B)), ("fill", ()), ("group", ("fill", (A,))))), 8, 4, 4)

    def test_each_as_often_as_it_stands_there(self):
        document = A
        for at in range(8):
            document = ("choice", document, document)
        self.check(document, 2 ** 9 - 1, 9, 2 ** 8 - 1)

    def test_in_one_another(self):
        for document in documents.small_ones() + documents.any_many(220, 400, most=50, deep=7):
            self.check(document, plain_docs.parts(document), plain_docs.depth(document), plain_docs.choices(document))

    def test_bounds(self):
        self.check(LONG, 600, 5, 12)
        self.check(DEEP, plain_docs.parts(DEEP), 40, 3)
        deep = documents.nested(30000, A)
        self.assertEqual((parts_in(deep), depth_of(deep), choices_in(deep), flat_text(deep)), (30001, 30001, 0, "a"))


if __name__ == "__main__":
    unittest.main()
