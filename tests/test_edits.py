"""Point 31: gaps, items, and edits of gaps alone."""

import random
import unittest

from leastlaid.edits import all_changed, changes_to, edits_of, gaps_of, items_of
from leastlaid.errors import Faulty, NoChange
from leastlaid.formatting import formatted
from leastlaid.pages import page_of
from leastlaid.reading import faults_of
from leastlaid.rows import row_of
from tests import plain
from tests.documents import RANKS
from tests.writing import any_style, any_text, bracketed

STYLE = (40, 2, 1, RANKS[0], "ahead", "fill")
TEXT = "let a=1;\n\n\nset  b = (2);# x\nf( a );let c=3;"


def put_together(text):
    """The items and the gaps of a text, one behind the other."""
    items = items_of(text)
    told = ""
    for at, (begin, end) in enumerate(gaps_of(text)):
        told += text[begin:end] + (items[at] if at < len(items) else "")
    return told


class GapsAndItems(unittest.TestCase):
    def test_some(self):
        self.assertEqual(items_of("f( a );"), ("f", "(", "a", ")", ";"))
        self.assertEqual(gaps_of("f( a );"), ((0, 0), (1, 1), (2, 3), (4, 5), (6, 6), (7, 7)))
        self.assertEqual(items_of(" ( ( f ) ) ( ( a ) ) ;\n"), ("f", "(", "a", ")", ";"))
        self.assertEqual(gaps_of(" ( ( f ) ) ( ( a ) ) ;\n"), ((0, 5), (6, 11), (12, 15), (16, 19), (20, 21), (22, 23)))
        self.assertEqual(items_of("<* a *>b<* c *>;"), ("<* a *>", "b", "<* c *>", ";"))
        self.assertEqual(gaps_of("<* a *>b<* c *>;"), ((0, 0), (7, 7), (8, 8), (15, 15), (16, 16)))

    def test_blanks_behind_line_comments(self):
        self.assertEqual(items_of("a; # b   \n  # c  "), ("a", ";", "# b", "# c"))
        self.assertEqual(gaps_of("a; # b   \n  # c  "), ((0, 0), (1, 1), (2, 3), (6, 12), (15, 17)))
        self.assertEqual(gaps_of("<* a  *>  \n"), ((0, 0), (8, 11)))

    def test_without_items(self):
        for text in ("", "  ", "\n \n"):
            self.assertEqual([gaps_of(text), items_of(text)], [((0, len(text)),), ()])

    def test_any_texts(self):
        for number in range(500):
            text = any_text(3100 + number)[0]
            items, gaps = items_of(text), gaps_of(text)
            self.assertEqual([type(items), type(gaps), len(gaps)], [tuple, tuple, len(items) + 1])
            self.assertEqual(put_together(text), text)
            for begin, end in gaps:
                self.assertEqual(text[begin:end].strip(" \n()"), "")
            comments = [item for item in items if item.startswith(("#", "<*"))]
            self.assertEqual(comments, [word.rstrip(" ") if kind == "line" else word
                                        for kind, word, _ in plain.cut(text)[0] if kind in ("line", "block")])
            self.assertEqual(tuple(item for item in items if item not in comments), row_of(page_of(text)[0]))
            self.assertEqual([begin for begin, _ in gaps], sorted(begin for begin, _ in gaps))

    def test_faulty(self):
        for text in ("let", "a;\n;", "( !", "a; \"b"):
            for function in (gaps_of, items_of):
                with self.assertRaises(Faulty) as caught:
                    function(text)
                self.assertEqual(caught.exception.faults, tuple(faults_of(text)))


class AllChanged(unittest.TestCase):
    def test_some(self):
        for changes, expected in (
                ([], "abcdef"), ([(0, 0, "x")], "xabcdef"), ([(6, 6, "x")], "abcdefx"), ([(0, 6, "")], ""),
                ([(1, 2, "x"), (4, 5, "")], "axcdf"), ([(1, 3, "xyz"), (3, 3, "q"), (3, 5, "r")], "axyzqrf"),
                ([(2, 2, "x"), (2, 2, "y"), (2, 4, "z")], "abxyzef"), ([(0, 1, "\n"), (5, 6, "\n\n")], "\nbcde\n\n")):
            self.assertEqual(all_changed("abcdef", changes), expected)
            self.assertEqual(all_changed("abcdef", tuple(changes)), expected)
        self.assertEqual(all_changed("", ((0, 0, "a"),)), "a")

    def test_wrong_ones(self):
        for changes, place in (
                ([(7, 7, "")], 0), ([(0, 7, "")], 0), ([(1, 3, "x"), (2, 4, "")], 1), ([(4, 5, ""), (1, 2, "")], 1),
                ([(0, 1, ""), (1, 2, ""), (5, 7, ""), (0, 0, "")], 2), ([(0, 3, ""), (2, 9, "")], 1),
                ([(3, 3, ""), (2, 2, ""), (9, 9, "")], 1), ([(10, 11, "x")], 0)):
            for given in (changes, tuple(changes)):
                with self.assertRaises(NoChange) as caught:
                    all_changed("abcdef", given)
                self.assertIs(caught.exception.change, changes[place])

    def test_what_is_handed_in_stays(self):
        changes = [(1, 2, "x"), (4, 5, "")]
        all_changed("abcdef", changes)
        self.assertEqual(changes, [(1, 2, "x"), (4, 5, "")])


class ChangesTo(unittest.TestCase):
    def test_some(self):
        self.assertEqual(changes_to("f (a);", "f(a)  ;"), [(1, 2, ""), (5, 5, "  ")])
        self.assertEqual(changes_to("f(a);", "f(a);"), [])
        self.assertEqual(changes_to("a;", "((a));"), [(0, 0, "(("), (1, 1, "))")])
        self.assertEqual(changes_to("((a));", "(a);"), [(0, 2, "("), (3, 5, ")")])
        self.assertEqual(changes_to(" \n", ""), [(0, 2, "")])
        self.assertEqual(changes_to("", "\n"), [(0, 0, "\n")])
        self.assertEqual(changes_to("a; # b  \n", "a;\n# b\n"), [(2, 3, "\n"), (6, 9, "\n")])
        self.assertEqual(changes_to("let a=(b+c);", "let a=b+(c);"), [(6, 7, ""), (9, 9, "(")])

    def test_other_items(self):
        for one, other in (
                ("a;", "b;"), ("a;", "a; # b"), ("a; # b", "a; # c"), ("a;", ""), ("f(a);", "f(a, a);"), ("a;", "a;a;"), ("<* a *>", "<*a*>"),
                ("f(a);", "(f)a;f();"), ("a-b;", "a+b;"), ("1.5;", "1.50;")):
            if not faults_of(one) and not faults_of(other):
                self.assertIsNone(changes_to(one, other))
                self.assertIsNone(changes_to(other, one))
        # Comments may come to other owners: their order is what counts.
        self.assertEqual(changes_to("a; # b\nc;", "a;\n# b\nc;"), [(2, 3, "\n")])

    def test_texts_of_one_row(self):
        for number in range(200):
            source = random.Random(number)
            program = page_of(any_text(3150 + number)[0])[0]
            one, other = bracketed(program, source), bracketed(program, source)
            changes = changes_to(one, other)
            self.assertEqual(all_changed(one, changes), other)
            self.assertEqual(changes_to(one, one), [])
            self.assert_least(one, other, changes)

    def assert_least(self, text, other, changes):
        gaps, others = gaps_of(text), gaps_of(other)
        expected = [
            (begin, end, other[first:last]) for (begin, end), (first, last) in zip(gaps, others)
            if text[begin:end] != other[first:last]]
        self.assertEqual(changes, expected)


class EditsOf(unittest.TestCase):
    def test_some(self):
        self.assertEqual(edits_of("f( a );", STYLE), [(2, 3, ""), (4, 5, ""), (7, 7, "\n")])
        self.assertEqual(edits_of("f(a);\n", STYLE), [])
        self.assertEqual(edits_of("", STYLE), [])
        self.assertEqual(edits_of("\n", STYLE), [(0, 1, "")])
        self.assertEqual(edits_of("((a));", STYLE), [(0, 2, ""), (3, 5, ""), (6, 6, "\n")])
        self.assertEqual(len(edits_of(TEXT, STYLE)), 13)

    def test_any_texts(self):
        for number in range(150):
            text = any_text(3170 + number)[0]
            style = any_style(random.Random(number))
            expected = formatted(text, style)
            edits = edits_of(text, style)
            self.assertEqual(all_changed(text, edits), expected)
            self.assertEqual(all_changed(text, tuple(edits)), expected)
            self.assertEqual(edits_of(expected, style), [])
            self.assertEqual(items_of(expected), items_of(text))
            gaps = gaps_of(text)
            for begin, end, string in edits:
                self.assertIn((begin, end), gaps)
                self.assertNotEqual(text[begin:end], string)

    def test_faulty(self):
        with self.assertRaises(Faulty) as caught:
            edits_of("let 1; f(", STYLE)
        self.assertEqual(caught.exception.faults, (((0, 8), "open"),))

    def test_the_list_is_the_callers(self):
        found = edits_of(TEXT, STYLE)
        found.clear()
        self.assertEqual(len(edits_of(TEXT, STYLE)), 13)


if __name__ == "__main__":
    unittest.main()
