"""Point 30: bundles of statements, and formatting them by themselves."""

import itertools
import random
import unittest

from leastlaid.errors import Faulty
from leastlaid.formatting import formatted
from leastlaid.owners import owned
from leastlaid.pages import clipped, page_of
from leastlaid.ranges import bundles, format_bundles, format_lines, met
from leastlaid.reading import faults_of
from tests import plain
from tests.documents import RANKS
from tests.writing import any_style, any_text

STYLE = (40, 2, 1, RANKS[0], "ahead", "fill")
TEXT = "let a=1;\n\n\nset  b = (2);# x\nf( a );let c=3;"


def plain_bundles(text):
    """The bundles of a text, by the lines of each of its signs."""
    tokens = plain.cut(text)[0]
    told = plain.PlainRow(page_of(text)[0])
    outermost = [(begin, end) for begin, end, deep, _ in told.spans if deep == 0 and told.row[begin - 1:begin] != ["else"]]
    ends = [sum(word not in "()" for word in told.row[:end]) for _, end in outermost]
    owners = [index for _, _, index, _ in owned(text)]
    lines, many = {}, 0
    for kind, word, begin in tokens:
        if kind in ("line", "block"):
            index = owners.pop(0)
            place = sum(end <= index for _, end in outermost)
        else:
            place = sum(end <= many for end in ends)
            many += word not in "()"
        first = plain.place(text, begin)[0]
        lines.setdefault(place, []).extend([first, first + word.count("\n")])
    found = []
    for place in sorted(lines):
        first, last = min(lines[place]), max(lines[place])
        if found and first <= found[-1][1]:
            found[-1] = (found[-1][0], max(last, found[-1][1]), found[-1][2] + (place,))
        else:
            found.append((first, last, (place,)))
    return found


def plainly_formatted(text, style, lot):
    """What format_bundles has to return, line by line."""
    lines, found = text.split("\n"), plain_bundles(text)
    if not found:
        return formatted(text, style)
    for at in reversed(range(len(found))):
        first, last, _ = found[at]
        if at not in lot:
            continue
        inside = formatted("\n".join(lines[first:last + 1]), style)[:-1].split("\n")
        ahead = 0
        while first - ahead > 0 and not lines[first - ahead - 1].strip():
            ahead += 1
        kept = min(ahead, style[2]) if at else 0
        behind = lines[last + 1:] if at + 1 < len(found) else [""]
        lines = lines[:first - ahead] + [""] * kept + inside + behind
    return "\n".join(lines)


class Bundles(unittest.TestCase):
    def check(self, text, *expected):
        self.assertEqual(bundles(text), list(expected), text)
        self.assertEqual(plain_bundles(text), list(expected), text)

    def test_none(self):
        for text in ("", " ", "\n", " \n  \n"):
            self.check(text)

    def test_lines_of_their_own(self):
        self.check("a;", (0, 0, (0,)))
        self.check("\n\n  a;\n", (2, 2, (0,)))
        self.check("a;\nb;\n\nc;", (0, 0, (0,)), (1, 1, (1,)), (3, 3, (2,)))
        self.check("a\n\n;\n\nb;", (0, 2, (0,)), (4, 4, (1,)))
        self.check("if a {\n\n} else\nif b {}\nc;", (0, 3, (0,)), (4, 4, (1,)))

    def test_shared_lines(self):
        self.check("a;b;\nc;", (0, 0, (0, 1)), (1, 1, (2,)))
        self.check("a;b\n;c;\nd;", (0, 1, (0, 1, 2)), (2, 2, (3,)))
        self.check("if a {\n} if b {\n} c;\nd;", (0, 2, (0, 1, 2)), (3, 3, (3,)))
        self.check(TEXT, (0, 0, (0,)), (3, 3, (1,)), (4, 4, (2, 3)))

    def test_comments(self):
        self.check("# a\nb;\n# c\n\n# d\ne;", (0, 1, (0,)), (2, 5, (1,)))
        self.check("a; # b\nc;", (0, 0, (0,)), (1, 1, (1,)))
        self.check("a; <* b\n*>\nc;", (0, 1, (0,)), (2, 2, (1,)))
        self.check("a; <* b\n*> c;", (0, 1, (0, 1)))
        self.check("a; <* b\n*> <* c *>\nd;", (0, 2, (0, 1)))
        self.check("a; <* b\n*> # c\n\nd;", (0, 3, (0, 1)))
        self.check("a;\n<* b\n*> c;\nd;", (0, 0, (0,)), (1, 2, (1,)), (3, 3, (2,)))

    def test_grouping_brackets(self):
        self.check("a;\n((\nb\n).c);", (0, 0, (0,)), (1, 3, (1,)))
        self.check("a; (\nb);", (0, 1, (0, 1)))
        self.check("(a\n)\n; b;", (0, 2, (0, 1)))
        self.check("a; ( # b\n\nc);\nd;", (0, 2, (0, 1)), (3, 3, (2,)))
        self.check("a; ( <* b\n*>\nc); d;\ne;", (0, 2, (0, 1, 2)), (3, 3, (3,)))
        self.check("(a\n); (\n# c\nb);\nd;", (0, 3, (0, 1)), (4, 4, (2,)))

    def test_the_end(self):
        self.check("# a\n\n\n<* b\n*>", (0, 4, (0,)))
        self.check("a;\n# b", (0, 0, (0,)), (1, 1, (1,)))
        self.check("a;\n\n# b\n\n# c\n", (0, 0, (0,)), (2, 4, (1,)))
        self.check("a; <* b\n*> # c", (0, 1, (0, 1)))
        self.check("a; b; <* c\n*> <* d *>\n# e", (0, 2, (0, 1, 2)))

    def test_over_a_third_one(self):
        self.check("a; b(\n); c;\nd;", (0, 1, (0, 1, 2)), (2, 2, (3,)))
        self.check("a; b; c; <* d\n\n*> e;", (0, 2, (0, 1, 2, 3)))

    def test_any_texts(self):
        several = 0
        for number in range(400):
            text = any_text(3000 + number, deep=1, blocks=3)[0]
            found = bundles(text)
            self.assertEqual(found, plain_bundles(text), text)
            several += len(found) > 1 and any(len(lot) > 1 for _, _, lot in found)
            held = [line for first, last, _ in found for line in range(first, last + 1)]
            for line, string in enumerate(text.split("\n")):
                self.assertIn(held.count(line), (0, 1))
                self.assertTrue(line in held or not string.strip())
        self.assertGreater(several, 50)

    def test_the_list_is_the_callers(self):
        found = bundles(TEXT)
        found.clear()
        self.assertEqual(len(bundles(TEXT)), 3)


class Met(unittest.TestCase):
    def test_all_lines(self):
        text = "\n" + TEXT + "\n\n# y\n\n\n"
        told = plain_bundles(text)
        for first in range(14):
            for last in range(14):
                expected = tuple(
                    at for at, (begin, end, _) in enumerate(told)
                    if set(range(begin, end + 1)) & set(range(first, last + 1)))
                self.assertEqual(met(text, first, last), expected)
        self.assertEqual(met(text, 0, 10 ** 9), (0, 1, 2, 3))
        self.assertEqual(met("", 0, 9), ())

    def test_within_a_tall_one(self):
        text = "a(\n\n\n);\nb;"
        self.assertEqual([met(text, 1, 1), met(text, 2, 4), met(text, 2, 1), met(text, 4, 4), met(text, 5, 9)], [(0,), (0, 1), (), (1,), ()])


class FormatBundles(unittest.TestCase):
    def check(self, text, style, lot):
        found = format_bundles(text, style, lot)
        self.assertEqual(found, plainly_formatted(text, style, lot), (text, style, lot))
        return found

    def test_some(self):
        text = "\n\n let a=1;\n \n\nset  b = (2);# x\n\n\n\nf( a );let c=3;\n\n# y  \n\n\n"
        expected = [
            ((), text),
            ((0,), "let a = 1;\n \n\nset  b = (2);# x\n\n\n\nf( a );let c=3;\n\n# y  \n\n\n"),
            ((1,), "\n\n let a=1;\n\nset b = 2; # x\n\n\n\nf( a );let c=3;\n\n# y  \n\n\n"),
            ((2,), "\n\n let a=1;\n \n\nset  b = (2);# x\n\nf(a);\nlet c = 3;\n\n# y  \n\n\n"),
            ((3,), "\n\n let a=1;\n \n\nset  b = (2);# x\n\n\n\nf( a );let c=3;\n\n# y\n"),
            ((0, 1, 2, 3), "let a = 1;\n\nset b = 2; # x\n\nf(a);\nlet c = 3;\n\n# y\n"),
        ]
        for lot, other in expected:
            self.assertEqual(self.check(text, STYLE, lot), other)
        self.assertEqual(format_bundles(text, STYLE[:2] + (0,) + STYLE[3:], (1, 3)), "\n\n let a=1;\nset b = 2; # x\n\n\n\nf( a );let c=3;\n# y\n")
        self.assertEqual(format_bundles(text, STYLE[:2] + (3,) + STYLE[3:], (1, 2)), (
            "\n\n let a=1;\n\n\nset b = 2; # x\n\n\n\nf(a);\nlet c = 3;\n\n# y  \n\n\n"))

    def test_without_bundles(self):
        for text in ("", "\n\n", "  \n"):
            self.assertEqual(format_bundles(text, STYLE, ()), "")
            self.assertEqual(format_lines(text, STYLE, 0, 9), "")

    def test_the_end(self):
        text = "a ;\n\n\n# x\n\n\n# y\n\n"
        self.assertEqual(self.check(text, STYLE, (1,)), "a ;\n\n# x\n# y\n")
        self.assertEqual(self.check(text, STYLE, (0,)), "a;\n\n\n# x\n\n\n# y\n\n")
        self.assertEqual(self.check("a ; <* b\n*>   # x", STYLE, (0,)), "a; <* b\n*>\n# x\n")
        self.assertEqual(self.check("\n# x\n\n# y", STYLE, (0,)), "# x\n# y\n")

    def test_each_lot_of_any_texts(self):
        for number in range(110):
            text, page = any_text(3900 + number, deep=1, blocks=2)
            style = any_style(random.Random(number))
            many = len(bundles(text))
            lots = [lot for size in range(many + 1) for lot in itertools.combinations(range(many), size)]
            for lot in lots if many < 4 else lots[::len(lots) // 7]:
                found = self.check(text, style, lot)
                self.assertEqual(clipped(page_of(found), style[2]), clipped(page, style[2]))
            self.assertEqual(format_bundles(text, style, tuple(range(many))), formatted(text, style))
            self.assertEqual(format_lines(text, style, 0, text.count("\n")), formatted(text, style))
            line = number % (text.count("\n") + 2)
            self.assertEqual(format_lines(text, style, line, line + 3), format_bundles(text, style, met(text, line, line + 3)))

    def test_one_behind_the_other_in_any_order(self):
        for number in range(120):
            text = any_text(4500 + number, deep=1, blocks=2)[0]
            source = random.Random(number)
            style = any_style(source)
            expected = formatted(text, style)
            todo = [lot for _, _, lot in bundles(text)]
            source.shuffle(todo)
            for statements in todo:
                # What was one bundle may be several ones by now.
                lot = tuple(at for at, (_, _, held) in enumerate(bundles(text)) if set(held) & set(statements))
                self.assertEqual({place for at in lot for place in bundles(text)[at][2]}, set(statements))
                text = format_bundles(text, style, lot)
            self.assertEqual(text, expected if todo else text)


class Faults(unittest.TestCase):
    def test_faulty(self):
        for text in ("let", "a;\n;", "( !", "a; \"b"):
            for function, more in ((bundles, ()), (met, (0, 0)), (format_bundles, (STYLE, ())), (format_lines, (STYLE, 0, 0))):
                with self.assertRaises(Faulty) as caught:
                    function(text, *more)
                self.assertEqual(caught.exception.faults, tuple(faults_of(text)))


if __name__ == "__main__":
    unittest.main()
