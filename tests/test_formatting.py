"""Point 29: texts and pages formatted, and papers; and points 7 and 9."""

import random
import unittest

from leastlaid.badness import badness_of, best_by_all, over_of, sum_of
from leastlaid.docs import choices_in
from leastlaid.errors import Faulty, TooMany
from leastlaid.formatting import (
    formatted, formatted_page, is_paper, joined_shares, least_of, paper_of, shares_of, statement_documents)
from leastlaid.judge import is_best, is_table
from leastlaid.layouts import all_layouts, ways_to
from leastlaid.owners import owned
from leastlaid.pages import bare, clipped, page_of, parted, text_of
from leastlaid.printing import document_of
from leastlaid.reading import faults_of, read_program
from leastlaid.tables import laid, least_badness, table_of
from tests import plain, samples
from tests.documents import RANKS
from tests.values import OTHERS, STRANGE
from tests.writing import any_style, any_text, bracketed

WIDTHS = (8, 9, 10, 12, 15, 19, 24, 30, 37, 45, 60, 80, 100, 120)
STYLE = (30, 2, 1, RANKS[0], "ahead", "rows")
PLAIN = (80, 4, 1, RANKS[0], "behind", "rows")
FEW = (
    "let total = alpha + beta * gamma;", "f(a, b, [c, d]);", "give { a: b, c: fn(x) -> x + y };", "let a = b.c(d)[e];",
    "set xs = [100, 200, 300, 400, 500];", "if a + b > c { give d; } else { f(e, g); }", "let a = '''b\nccccccccccccccccc''' + d;",
    "f(x # why\n, y);", "let a = # b\n(c or d) and e;", "a or\n# b\nc;", "while a { b(c, d); # e\n\n# f\n}",
    "# a\n\nlet bbbbbbbbbbbbb = cccccccc;\n\n\n# d\n\n# e",
)
MANY = (
    "let x = aa + bb * (cc - dd) / ee.ff(gg, hh, [ii, jj]) - kk + ll * mm + nn(oo, pp(qq, rr + ss));",
    "def f(a, b) { let c = g(a + b, [a, b, { k: a or b and not c }]); while c < 10 { set c = c * 2 + h(c)[c ^ 2]; } give c; }",
    "set long_name = first(one, two, three)(four, five)[six](fn(x, y) -> x + y * 2, [seven, eight], nine or ten);",
)
# A page with statements of which some are alike, empty lines of all sorts, comments, and an END.
PAGE = """# top

let a = f(1, 2); # one


let a = f(1, 2); # one
if a > 1 { give [a, b, c, d, e, f, g, h]; } else { a; }



<* two
*>
give;

# end
<* end *>
"""


def style_with(**more):
    names = ("width", "step", "blanks", "rank", "operators", "lists")
    return tuple(more.get(name, part) for name, part in zip(names, STYLE))


def all_ranks(text, lists="rows"):
    for rank in RANKS:
        for width in WIDTHS:
            yield text, (width, 2, 1, rank, "ahead", lists)


class Best(unittest.TestCase):
    """The text is that of the first of the best layouts."""

    def check_by_all(self, text, style):
        page = page_of(text)
        document = document_of(page, style)
        badness, _, best = best_by_all(style[0], style[3], document)
        self.assertEqual(formatted_page(page, style), best, (text, style))
        self.assertEqual(formatted(text, style), best)
        self.assertEqual(least_of(page, style), badness)

    def check_by_table(self, text, style):
        page = page_of(text)
        document = document_of(page, style)
        self.assertEqual(formatted_page(page, style), laid(style[0], style[3], document), (text, style))
        self.assertEqual(least_of(page, style), least_badness(style[0], style[3], document))

    def test_few_layouts_by_each_rank(self):
        for text in FEW:
            for lists in ("fill", "rows"):
                for string, style in all_ranks(text, lists):
                    self.check_by_all(string, style)

    def test_many_layouts_by_each_rank(self):
        for at, text in enumerate(MANY):
            for string, style in list(all_ranks(text, "fill"))[at::3]:
                self.check_by_table(string, style)

    def test_any_texts(self):
        many = 0
        for number in range(600):
            text, page = any_text(2900 + number)
            style = any_style(random.Random(number))
            if choices_in(document_of(page, style)) <= 8:
                self.check_by_all(text, style)
                many += 1
            else:
                self.check_by_table(text, style)
        self.assertGreater(many, 300)

    def test_each_expression_and_statement(self):
        for number, wrap in enumerate(samples.wrappers()):
            for other in samples.wrappers()[number % 3::3]:
                program = tuple(samples.statements_with(wrap(other(("name", "nnnnnn")))))
                style = any_style(random.Random(number))
                for _, page in parted((program, {}, {}))[0]:
                    self.check_by_table(text_of(page), style)

    def test_the_first_of_equals(self):
        # Both alternatives are as bad: the value stays behind its word.
        self.assertEqual(formatted("let a = bbbbbbbb;", style_with(width=8, rank=("broken", "lines", "over"))), "let a = bbbbbbbb;\n")
        self.assertEqual(formatted("let a = bb # c\n;", style_with(width=8, step=8)), "let a = bb # c\n;\n")
        self.assertEqual(formatted("[aaa, bbb, ccc];", style_with(width=9, lists="fill")), "[\n  aaa,\n  bbb,\n  ccc\n];\n")
        self.assertEqual(formatted("[aa, bb, cc];", style_with(width=9, lists="fill")), "[\n  aa, bb,\n  cc\n];\n")

    def test_some_texts(self):
        self.assertEqual(formatted("", STYLE), "")
        self.assertEqual(formatted(" \n \n", STYLE), "")
        self.assertEqual(formatted("\n# a\n\n\n\n<* b\n *>\n", STYLE), "# a\n<* b\n *>\n")
        self.assertEqual(formatted("(fn(x)->x)(1)  ;", STYLE), "(fn(x) -> x)(1);\n")
        self.assertEqual(formatted("((a));\n\n\n\n\nb;", style_with(blanks=3)), "a;\n\n\n\nb;\n")
        self.assertEqual(formatted("((a));\n\n\n\n\nb;", style_with(blanks=0)), "a;\nb;\n")
        self.assertEqual(formatted(PAGE, PLAIN), (
            "# top\nlet a = f(1, 2); # one\n\nlet a = f(1, 2); # one\nif a > 1 {\n    give [a, b, c, d, e, f, g, h];\n} else {\n"
            "    a;\n}\n\n<* two\n*>\ngive;\n\n# end\n<* end *>\n"))
        self.assertEqual(formatted(PAGE, (24, 3, 0, RANKS[0], "behind", "rows")), (
            "# top\nlet a = f(1, 2); # one\nlet a = f(1, 2); # one\nif a > 1 {\n   give [\n      a,\n      b,\n      c,\n      d,\n"
            "      e,\n      f,\n      g,\n      h\n   ];\n} else {\n   a;\n}\n<* two\n*>\ngive;\n# end\n<* end *>\n"))

    def test_operators(self):
        text = "let total = alpha + beta * (gamma + delta) - epsilon or zeta;"
        self.assertEqual(formatted(text, (24, 2, 1, RANKS[0], "behind", "rows")), (
            "let total = alpha +\n  beta *\n    (gamma + delta) -\n  epsilon or\n  zeta;\n"))
        self.assertEqual(formatted(text, (24, 2, 1, RANKS[0], "ahead", "rows")), (
            "let total = alpha\n  + beta\n    * (gamma + delta)\n  - epsilon\n  or zeta;\n"))
        self.assertEqual(formatted(text, (30, 4, 1, RANKS[0], "ahead", "rows")), (
            "let total = alpha\n    + beta * (gamma + delta)\n    - epsilon\n    or zeta;\n"))


class SamePage(unittest.TestCase):
    """Point 7: the text hangs on the page and the style alone, and is read as this page."""

    def test_any_texts(self):
        for number in range(500):
            text, page = any_text(7000 + number)
            style = any_style(random.Random(number))
            found = formatted(text, style)
            self.assertEqual(page_of(found), clipped(page, style[2]), text)
            self.assertEqual([one[:1] + one[2:] for one in owned(found)], [one[:1] + one[2:] for one in owned(text)])
            self.assertEqual(formatted(found, style), found)
            self.assertEqual(formatted(text_of(page), style), found)
            self.assertTrue(found.endswith("\n") or found == "")
            self.assertFalse(found.startswith("\n"))

    def test_other_gaps_and_needless_brackets(self):
        for number in range(300):
            source = random.Random(number)
            program = samples.any_block(source, 2)
            style = any_style(source)
            expected = formatted_page((program, {}, {}), style)
            for _ in range(2):
                text = bracketed(program, source)
                self.assertEqual(read_program(text), program)
                self.assertEqual(formatted(text, style), expected, text)
            self.assertEqual(bare(page_of(expected)), (program, {}, {}))

    def test_formatted_by_one_style_and_then_by_another(self):
        for number in range(200):
            text, page = any_text(7700 + number)
            source = random.Random(number)
            first, second = any_style(source), any_style(source)
            many = max(first[2], second[2])
            first = first[:2] + (many,) + first[3:]
            self.assertEqual(formatted(formatted(text, first), second), formatted(text, second))
            self.assertEqual(formatted_page(clipped(page, second[2]), second), formatted(text, second))

    def test_other_names_as_long(self):
        for text in MANY + FEW:
            other = other_names(text)
            self.assertNotEqual(text, other)
            for style in (STYLE, PLAIN, style_with(width=13, lists="fill")):
                self.assertEqual(formatted(other, style), other_names(formatted(text, style)))

    def test_a_wider_width_has_no_more_beyond(self):
        for at, text in enumerate(MANY + FEW + (PAGE,)):
            for rank in RANKS[:2]:
                self.assertEqual(rank[0], "over")
                before = None
                for width in WIDTHS:
                    found = over_of(formatted(text, (width, at % 9, 1, rank, "ahead", ("fill", "rows")[at % 2])), width)
                    self.assertTrue(before is None or found <= before, (text, width))
                    before = found


def other_names(text):
    """A text with other names, as long, in the place of its own."""
    found, behind = "", 0
    for kind, word, begin in plain.cut(text)[0]:
        found += text[behind:begin] + ("z" + word[1:].upper() if kind == "name" else word)
        behind = begin + len(word)
    return found + text[behind:]


class Parts(unittest.TestCase):
    """Point 9: statements are laid out by themselves, and their badness is summed."""

    def check(self, page, style):
        parts, empty, comments = parted(page)
        documents = statement_documents(page, style)
        shares = shares_of(page, style)
        self.assertEqual([type(documents), type(shares)], [tuple, tuple])
        self.assertEqual(documents, tuple(document_of(part, style) for _, part in parts))
        self.assertEqual(shares, tuple(formatted_page(part, style) for _, part in parts))
        self.assertEqual(shares, tuple(laid(style[0], style[3], document) for document in documents))
        found = formatted_page(page, style)
        self.assertEqual(joined_shares(page, style, shares), found)
        least = (0, 0, 0)
        for (many, part), document in zip(parts, documents):
            least = sum_of(least, least_badness(style[0], style[3], document))
            least = sum_of(least, (0, min(many, style[2]), 0))
        end = "".join(comment + "\n" for comment in comments)
        least = sum_of(least, (over_of(end, style[0]), end.count("\n") + min(empty, style[2]), 0))
        self.assertEqual(least_of(page, style), least)
        self.assertEqual(least[:2], (over_of(found, style[0]), found.count("\n")))

    def test_some(self):
        for blanks in range(4):
            self.check(page_of(PAGE), style_with(blanks=blanks))
        for text in FEW + MANY + ("", "# a", "a;"):
            self.check(page_of(text), STYLE)
        self.assertEqual([statement_documents(page_of("# a"), STYLE), shares_of(page_of("# a"), STYLE)], [(), ()])
        self.assertEqual(least_of(page_of(""), STYLE), (0, 0, 0))
        self.assertEqual(least_of(page_of("# " + "a" * 40 + "\n# b"), STYLE), (12, 2, 0))

    def test_any_pages(self):
        for number in range(300):
            self.check(any_text(900 + number)[1], any_style(random.Random(number)))

    def test_broken_ones_are_told(self):
        for text in FEW:
            document = document_of(page_of(text), STYLE)
            found = least_of(page_of(text), STYLE)
            ways = [ways for ways, other in all_layouts(document) if other == formatted(text, STYLE)]
            self.assertIn(found, [badness_of(STYLE[0], document, way) for way in ways])

    def test_joined_shares_of_any_strings(self):
        page = page_of(PAGE)
        strings = ("", "no line", "\n\n", "a\nb\n")
        for blanks in range(4):
            lines = ["\n" * min(many, blanks) for many in (0, 2, 0, 3)]
            expected = "".join(line + string for line, string in zip(lines, strings)) + "\n" * min(blanks, 1) + "# end\n<* end *>\n"
            self.assertEqual(joined_shares(page, style_with(blanks=blanks), strings), expected)
        self.assertEqual(joined_shares(((), {}, {}), STYLE, ()), "")
        self.assertEqual(joined_shares(page_of("# a\n\n# b"), STYLE, ()), "# a\n# b\n")
        self.assertEqual(joined_shares(page_of("a; b;"), STYLE, ("x", "y")), "xy")

    def test_the_page_stays(self):
        page = page_of(PAGE)
        turned = (page[0],) + tuple({key: table[key] for key in sorted(table, reverse=True)} for table in page[1:])
        kept = repr(turned)
        for function in (formatted_page, statement_documents, shares_of, paper_of, least_of):
            self.assertEqual(function(turned, STYLE), function(page, STYLE))
            self.assertEqual(repr(turned), kept)
        self.assertIs(is_paper(turned, STYLE, formatted(PAGE, STYLE), paper_of(page, STYLE)), True)


class Papers(unittest.TestCase):
    def check(self, expected, page, other, thing, style=STYLE):
        self.assertIs(is_paper(page, style, other, thing), expected)

    def test_they_are_tables(self):
        for number in range(30):
            page = any_text(400 + number)[1]
            style = any_style(random.Random(number))
            paper = paper_of(page, style)
            documents = statement_documents(page, style)
            self.assertIs(type(paper), tuple)
            self.assertEqual(paper, tuple(table_of(style[0], style[3], document) for document in documents))
            for document, table, share in zip(documents, paper, shares_of(page, style)):
                self.assertTrue(is_table(style[0], style[3], document, table))
                self.assertTrue(is_best(style[0], style[3], document, share, table))
            found = formatted_page(page, style)
            self.check(True, page, found, paper, style)
            self.check(True, page, found, tuple(table[::-1] for table in paper), style)
            for other in (found + "\n", found + " ", "\n" + found, found[:-1], found[1:], found.replace("\n", "\n\n", 1)):
                if other != found:
                    self.check(False, page, other, paper, style)

    def setUp(self):
        self.page = page_of(PAGE)
        self.found = formatted(PAGE, STYLE)
        self.paper = paper_of(self.page, STYLE)

    def test_other_papers(self):
        page, found, paper = self.page, self.found, self.paper
        self.check(True, page, found, paper)
        shuffled = []
        for at, table in enumerate(paper):
            entries = list(table)
            random.Random(at).shuffle(entries)
            shuffled.append(tuple(entries))
        self.check(True, page, found, tuple(shuffled))
        twice = page_of("let a = f(1, 2);\n\nlet a = f(1, 2);\nb;")
        one, other, last = paper_of(twice, STYLE)
        self.check(True, twice, "let a = f(1, 2);\n\nlet a = f(1, 2);\nb;\n", (other[::-1], one, last))
        for wrong in (
                paper[:-1], paper[1:], paper + paper[:1], paper[::-1], paper[:2] + (paper[3], paper[2]), list(paper),
                tuple(list(table) for table in paper), (), paper[:3] + ((),), paper[:3] + (None,), (paper,), {0: paper}):
            self.check(False, page, found, wrong)

    def test_other_entries(self):
        page, found, paper = self.page, self.found, self.paper
        for at, table in enumerate(paper):
            def check(expected, *entries):
                self.check(expected, page, found, paper[:at] + (tuple(entries),) + paper[at + 1:])
            for place in (0, 1, len(table) // 2, len(table) - 1):
                stand, badness = table[place]
                for part in range(3):
                    more = badness[:part] + (badness[part] + 1,) + badness[part + 1:]
                    check(False, *table[:place], (stand, more), *table[place + 1:])
                check(False, *table[:place], *table[place + 1:])
                check(False, *table, table[place])
                check(False, *table[:place], [stand, badness], *table[place + 1:])
                check(False, *table[:place], (list(stand), badness), *table[place + 1:])
                check(False, *table[:place], (stand, list(badness)), *table[place + 1:])
                check(False, *table[:place], (stand, badness, 0), *table[place + 1:])
            # Stands that can't be come to may be there.
            check(True, *table, ((99, ()), (0, 0, 0)))
            check(False, *table, ((99, ()), (0, 1, 0)))

    def test_any_value(self):
        for thing in OTHERS + STRANGE:
            self.check(False, self.page, self.found, thing)
            self.check(False, self.page, self.found, (thing,) * 4)
            self.check(False, self.page, self.found, self.paper[:3] + (thing,))
            self.check(False, self.page, self.found, self.paper[:3] + ((thing,),))
            self.check(thing == () and thing is not False, ((), {}, {}), "", thing)

    def test_other_texts(self):
        # Not the first one of the best, but one as bad; other ones are worse.
        text, style = "f(aaaa, bbbb)[cccc, dddd];".replace("[cccc, dddd]", "(cccc, dddd)"), style_with(width=20)
        page = page_of(text)
        document = document_of(page, style)
        paper = paper_of(page, style)
        least = least_of(page, style)
        outcomes = [(other, badness_of(20, document, ways)) for ways, other in all_layouts(document)]
        best = {other for other, badness in outcomes if badness == least}
        self.assertEqual(best, {
            "f(aaaa, bbbb)(\n  cccc,\n  dddd\n);\n", "f(\n  aaaa,\n  bbbb\n)(cccc, dddd);\n"})
        for other, _ in outcomes:
            self.check(other in best, page, other, paper, style)

    def test_texts_of_several_statements(self):
        text = "f(aaaa, bbbb)(cccc, dddd);\n\n\n# x\nf(aaaa, bbbb)(cccc, dddd);\n\n# y"
        style = style_with(width=20)
        page = page_of(text)
        paper = paper_of(page, style)
        one, other = "f(aaaa, bbbb)(\n  cccc,\n  dddd\n);\n", "f(\n  aaaa,\n  bbbb\n)(cccc, dddd);\n"
        bad = "f(\n  aaaa,\n  bbbb\n)(\n  cccc,\n  dddd\n);\n"
        for first in (one, other, bad):
            for second in (one, other, bad):
                found = first + "\n# x\n" + second + "\n# y\n"
                self.check(bad not in (first, second), page, found, paper, style)
                self.check(False, page, found + "x", paper, style)
                self.check(False, page, first + "\n\n# x\n" + second + "\n# y\n", paper, style)
                self.check(False, page, first + "\n# x\n" + second + "# y\n", paper, style)
                self.check(False, page, first + "# x\n" + second + "\n# y\n", paper, style)
        self.check(False, page, one + "\n# x\n" + one, paper, style)
        self.check(False, page, "", paper, style)
        self.check(False, page, "\n# x\n\n# y\n", paper, style)
        self.check(True, page_of("# y"), "# y\n", (), style)
        self.check(False, page_of("# y"), "# y", (), style)
        self.check(False, page_of("# y"), "", (), style)

    def test_ways_of_a_text(self):
        for text in FEW[:6]:
            page = page_of(text)
            self.assertIsNotNone(ways_to(document_of(page, STYLE), formatted(text, STYLE)))


class Bounds(unittest.TestCase):
    """None of these but paper_of raises TooMany."""

    def check(self, text, style, is_too_many):
        page = page_of(text)
        found = formatted(text, style)
        self.assertEqual(page_of(found), page)
        self.assertEqual(formatted(found, style), found)
        self.assertEqual(joined_shares(page, style, shares_of(page, style)), found)
        self.assertEqual(len(statement_documents(page, style)), len(page[0]))
        self.assertEqual(least_of(page, style)[:2], (over_of(found, style[0]), found.count("\n")))
        if is_too_many:
            self.assertIs(is_paper(page, style, found, ()), False)
            with self.assertRaises(TooMany) as caught:
                paper_of(page, style)
            self.assertEqual(caught.exception.most, 20000)

    def test_calls_in_one_another(self):
        arguments = "aa, b + c, "
        text = "let x = " + f"f({arguments}" * 20 + "y" + ")" * 20 + ";"
        for lists in ("fill", "rows"):
            for width in (8, 40, 120):
                self.check(text, (width, 2, 1, RANKS[0], "ahead", lists), False)

    def test_a_call_of_100_arguments(self):
        text = "let x = f(" + ", ".join("a" * (at % 9 + 1) + "(b, c)" for at in range(100)) + ");"
        for rank in RANKS:
            self.check(text, (120, 4, 1, rank, "ahead", "fill"), True)
            self.check(text, (60, 4, 1, rank, "behind", "rows"), False)

    def test_calls_behind_one_another(self):
        self.check("give f" + "(aa, b)(cc)[d]" * 130 + ";", (120, 4, 1, RANKS[0], "ahead", "fill"), True)

    def test_a_page_of_many_statements(self):
        lists = "set x = [" + ", ".join("ab"[at % 2] * (at % 5 + 1) for at in range(100)) + "];\n"
        self.check(lists * 7, (100, 4, 1, RANKS[0], "ahead", "fill"), False)
        self.check("while a { " + lists * 7 + "}", (100, 4, 1, RANKS[0], "ahead", "fill"), True)
        text = "let a = b + c;\nif a { give d(e, f); } else { set g = h; }\n" * 70
        self.check(text, PLAIN, False)
        self.check("def f() { " + text + "}", PLAIN, False)

    def test_deep_blocks(self):
        text = "a(b, c + d); "
        for at in range(20):
            text = ("if e { ", "while f { ", "for g in h { ", "def i(j) { ")[at % 4] + text + "k; }"
        for step in (0, 8):
            self.check(text, (40, step, 1, RANKS[0], "behind", "rows"), False)


class Faults(unittest.TestCase):
    def test_faulty(self):
        for text in ("let", "!", "(", "a;\n;", "let 1 = 2; f(a b); give", "! !\n\"", ") ) (", "<* a"):
            with self.assertRaises(Faulty) as caught:
                formatted(text, STYLE)
            self.assertEqual(caught.exception.faults, tuple(faults_of(text)))
            self.assertIs(type(caught.exception.faults), tuple)


if __name__ == "__main__":
    unittest.main()
