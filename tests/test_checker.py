"""Point 32: what is unformatted in a text."""

import random
import unittest

from leastlaid.badness import over_of
from leastlaid.checker import check, is_formatted, report, touched_lines, with_most_over
from leastlaid.edits import edits_of
from leastlaid.errors import Faulty
from leastlaid.formatting import formatted
from leastlaid.reading import faults_of
from tests import plain
from tests.documents import RANKS
from tests.writing import any_style, any_text

STYLE = (40, 2, 1, RANKS[0], "ahead", "fill")
FAULTY = ("let", "a;\n;", "f(\n!", "a; \"b", "let 1 = 2; f(a b); give", ") ) (", "! !\n\"")
WIDE = "let a = \"" + "b" * 40 + "\";\nc;\nf(" + "d" * 50 + ", e);\n"


class Check(unittest.TestCase):
    def check(self, text, *expected, **more):
        self.assertEqual(check(text, more.get("style", STYLE)), list(expected))

    def test_what_is_amiss(self):
        self.check("a;\n")
        self.check("")
        self.check("\n", ((0, 0), "lines", ""))
        self.check("  ", ((0, 0), "blanks", ""))
        self.check("a;", ((0, 2), "lines", "\n"))
        self.check("a;\n\n", ((0, 2), "lines", "\n"))
        self.check("a; \n", ((0, 2), "blanks", "\n"))
        self.check("a;\n ", ((0, 2), "blanks", "\n"))
        self.check(" a;\n", ((0, 0), "blanks", ""))
        self.check("\na;\n", ((0, 0), "lines", ""))
        self.check("(a);\n", ((0, 0), "brackets", ""), ((0, 2), "brackets", ""))
        self.check("(\n(a).b) ;\n", ((0, 0), "brackets", ""), ((1, 2), "brackets", ""), ((1, 5), "brackets", ""))
        self.check("( a + b ) * c;\n", ((0, 0), "blanks", "("), ((0, 7), "blanks", ") "))
        self.check("(\na + b) * c;\n", ((0, 0), "lines", "("))
        self.check("a;\n\n\n\nb;\n", ((0, 2), "lines", "\n\n"))
        self.check("a;\n \nb;\n", ((0, 2), "blanks", "\n\n"))
        self.check("a; # b  \n", ((0, 6), "blanks", "\n"))
        self.check("let a=1;\n", ((0, 5), "blanks", " "), ((0, 6), "blanks", " "))

    def test_wide_lines(self):
        first = "let a =\n  \"" + "b" * 40 + "\";\nc;\nf(\n  " + "d" * 50 + ",\n  e\n);\n"
        self.assertEqual(formatted(WIDE, STYLE), first)
        self.check(first, ((1, 40), "wide", 5), ((4, 40), "wide", 13))
        found = check(WIDE, STYLE)
        self.assertEqual([one for one in found if one[1] == "wide"], [((1, 40), "wide", 5), ((4, 40), "wide", 13)])
        self.assertEqual([one[:2] for one in found if one[1] != "wide"], [((0, 7), "lines"), ((2, 2), "lines"), ((2, 53), "lines"), ((2, 55), "lines")])
        self.check("a; # " + "b" * 35 + "\n")
        self.check("a; # " + "b" * 36 + "\n", ((0, 40), "wide", 1))

    def test_ascending(self):
        text = "a ;f( # " + "c" * 60 + "\n(b) ,d);\n\n\n\n# " + "e" * 50
        found = check(text, STYLE)
        self.assertEqual(found, sorted(found))
        self.assertEqual({word for _, word, _ in found}, {"brackets", "lines", "blanks", "wide"})

    def test_faults_alone(self):
        for text in FAULTY:
            self.check(text, *[(place, "fault", reason) for place, reason in faults_of(text)])
            self.assertEqual(check(text, STYLE), sorted(check(text, STYLE)))
            self.assertGreater(len(check(text, STYLE)), 0)

    def test_any_texts(self):
        for number in range(150):
            text = any_text(3200 + number)[0]
            style = any_style(random.Random(number))
            found = check(text, style)
            expected = []
            for begin, end, string in edits_of(text, style):
                gap = text[begin:end]
                brackets, feeds = ([[sign for sign in one if sign in wanted] for one in (gap, string)] for wanted in ("()", "\n"))
                word = "brackets" if brackets[0] != brackets[1] else "lines" if feeds[0] != feeds[1] else "blanks"
                expected.append((plain.place(text, begin), word, string))
            for line, told in enumerate(formatted(text, style).split("\n")):
                if len(told) > style[0]:
                    expected.append(((line, style[0]), "wide", len(told) - style[0]))
            self.assertEqual(found, sorted(expected))
            self.assertEqual(is_formatted(text, style), all(word == "wide" for _, word, _ in found))
            self.assertEqual({word for _, word, _ in check(formatted(text, style), style)} - {"wide"}, set())

    def test_the_list_is_the_callers(self):
        check(WIDE, STYLE).clear()
        self.assertEqual(len(check(WIDE, STYLE)), 6)


class IsFormatted(unittest.TestCase):
    def check(self, text, expected):
        self.assertIs(is_formatted(text, STYLE), expected, text)

    def test_formatted_ones(self):
        for text in ("", "a;\n", formatted(WIDE, STYLE)):
            self.check(text, True)
        for number in range(150):
            text = formatted(any_text(3250 + number)[0], STYLE)
            self.check(text, True)
            self.check(text + "\n", False)
            self.check(text[:-1], text == "")
            self.check(text[:-1] + " \n", False)
            self.check("\n" + text, False)
            self.check(" " + text, False)

    def test_one_gap_otherwise(self):
        text = formatted("f(a, (b + c) * d);\ng;\nlet i = j;", STYLE)
        for at in range(len(text)):
            if text[at] in " \n":
                self.check(text[:at] + " " + text[at:], False)
                self.check(text[:at] + text[at + 1:], False)

    def test_faulty_ones(self):
        for text in FAULTY:
            self.check(text, False)


class Report(unittest.TestCase):
    def test_some(self):
        self.assertEqual(report("a;\n", STYLE), [])
        self.assertEqual(report("(a) ;\n \nb;", STYLE), ["1:1: brackets", "1:3: brackets", "1:6: blanks", "3:3: lines"])
        self.assertEqual(report(WIDE, STYLE), [
            "1:8: lines", "2:41: wide 5", "3:3: lines", "3:54: lines", "3:56: lines", "5:41: wide 13"])
        self.assertEqual(report("let 1; f(a b", STYLE), ["1:9: fault open"])
        self.assertEqual(report("let 1;\n f(a b);", STYLE), ["1:5: fault name", "2:6: fault )"])

    def test_it_tells_all_findings(self):
        for number in range(100):
            text = any_text(3280 + number)[0]
            style = any_style(random.Random(number))
            found = report(text, style)
            self.assertEqual(len(found), len(check(text, style)))
            for string, ((line, column), word, more) in zip(found, check(text, style)):
                self.assertEqual(string, f"{line + 1}:{column + 1}: {word}" + (f" {more}" if word == "wide" else ""))


class Lines(unittest.TestCase):
    def test_touched_lines(self):
        self.assertEqual(touched_lines("a;\n", STYLE), ())
        self.assertEqual(touched_lines("a;", STYLE), (0,))
        self.assertEqual(touched_lines("a;\n\n\n\nb;\nc;\n", STYLE), (0, 1, 2, 3, 4))
        self.assertEqual(touched_lines("a;\nb ;\nc;\nd;\n\n", STYLE), (1, 3, 4, 5))
        self.assertEqual(touched_lines("\n\na;\nb;\n", STYLE), (0, 1, 2))
        for number in range(200):
            text = any_text(3300 + number)[0]
            style = any_style(random.Random(number))
            touched = set()
            for begin, end, _ in edits_of(text, style):
                touched |= set(range(text[:begin].count("\n"), text[:end].count("\n") + 1))
            self.assertEqual(touched_lines(text, style), tuple(sorted(touched)))

    def test_with_most_over(self):
        self.assertEqual([with_most_over("", STYLE), with_most_over("a;", STYLE), with_most_over(WIDE, STYLE)], [0, 0, 13])
        for number in range(200):
            text = any_text(3350 + number)[0]
            style = any_style(random.Random(number))
            lines = formatted(text, style).split("\n")
            self.assertEqual(with_most_over(text, style), max(over_of(line, style[0]) for line in lines))

    def test_faulty(self):
        for function in (touched_lines, with_most_over):
            for text in FAULTY:
                with self.assertRaises(Faulty) as caught:
                    function(text, STYLE)
                self.assertEqual(caught.exception.faults, tuple(faults_of(text)))


if __name__ == "__main__":
    unittest.main()
