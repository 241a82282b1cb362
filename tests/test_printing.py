"""Point 28: documents of pages; and what point 6 says of their layouts."""

import random
import unittest

from leastlaid.badness import best_by_all
from leastlaid.docs import choices_in, is_document
from leastlaid.layouts import all_layouts
from leastlaid.owners import owned
from leastlaid.pages import clipped, in_order, page_of
from leastlaid.printing import document_of
from leastlaid.rows import row_of, words_of
from leastlaid.trees import OPERATORS, level_of
from tests import plain_pages, samples
from tests.documents import RANKS
from tests.writing import BLOCKS, LINES, TALL, any_style, any_text

HARD, EMPTY, SPACE = ("hard",), ("line", ""), ("line", " ")
A, B, C, BLANK, END = ("text", "a"), ("text", "b"), ("text", "c"), ("text", " "), ("text", ";")
COMMA = ("text", ",")
STYLE = (40, 2, 1, RANKS[0], "behind", "rows")
COMMENTS = ("# x", "<* x *>", "<* x\n\ny *>")
TEXTS = (
    "let a = b;", 'set a = "b";', "give;", "give '''r\ns''';", "a;", "if a {}", "if a { b; } else { c; d; }",
    "if a {} else if b { c; } else {}", "while a { b; c; }", "for a in b { c; }", "def a() {}", "def a(b, c, d) { e; f; }",
    "a.b.c;", "not not a;", "- - a;", "(fn() -> a)();", "let a = fn(b, c) -> fn() -> b + c;", "(fn() -> a) + b;", "a();", "a(b, c)[d](e);",
    "(a + b)[c];", "[];", "[a, [b, c], (d)];", "{};", "{a: b, (c + d): e};", "a ^ -b ^ (c * d);", "(-a) ^ (b ^ c);",
    "a or b or (c or d) and e;", "a < b; a == (c > d);", "a + b - c * d / e - (f - g);",
    "not a == b and (not c) < d;", "(a or b) and not (c and d);", "let a = (fn() -> b) * (fn() -> c) - fn() -> d;",
    "a(fn() -> b)[fn() -> c];", "{fn() -> a: fn() -> b};", "(- fn() -> a).b;", "a + (not b);",
)


def style_with(**more):
    names = ("width", "step", "blanks", "rank", "operators", "lists")
    return tuple(more.get(name, part) for name, part in zip(names, STYLE))


def row(*parts):
    return ("row", parts)


def nest(step, *parts):
    return ("nest", step, parts[0] if len(parts) == 1 else row(*parts))


def group(*parts):
    return ("group", parts[0] if len(parts) == 1 else row(*parts))


def text(string):
    return ("text", string)


def commented(string):
    """A text with each kind of comment ahead of and behind each of its words, one at a time."""
    words = [word for word, _ in words_of(page_of(string)[0])]
    for at in range(len(words) + 1):
        for comment in COMMENTS:
            ahead = " ".join(words[:at]) + "\n" + comment + "\n" + " ".join(words[at:])
            behind = " ".join(words[:at]) + " " + comment + "\n" + " ".join(words[at:])
            yield ahead
            if at:
                yield behind


class Documents(unittest.TestCase):
    def check(self, string, expected, **more):
        """Hold the document of a text against one without the hard at its end."""
        found = plain_pages.flattened(document_of(page_of(string), style_with(**more)))
        self.assertEqual(found, plain_pages.flattened(row(expected, HARD)), string)

    def value(self, document, step=2, blank=BLANK):
        return ("choice", row(*[blank] * bool(blank), document), nest(step, HARD, document))

    def test_single_words(self):
        for word in ("1", "1.5", '"q\\n"', "a", "true", "false", "none", "'''r'''"):
            self.check(word + ";", row(text(word), END))
        self.check("'''r\n s\n''';", row(("raw", ("'''r", " s", "'''")), END))

    def test_field(self):
        self.check("a.b.c;", row(A, text("."), B, text("."), C, END))
        self.check("(- a).b;", row(text("("), text("-"), A, text(")"), text("."), B, END))

    def test_not_and_minus(self):
        self.check("not a;", row(text("not"), BLANK, A, END))
        self.check("not # x\na;", row(text("not"), BLANK, text("# x"), HARD, BLANK, A, END))
        self.check("not\n# x\na;", row(text("not"), HARD, text("# x"), HARD, A, END))
        self.check("- - a;", row(text("-"), text("-"), A, END))
        self.check("-\n# x\na;", row(text("-"), HARD, text("# x"), HARD, A, END))
        self.check("not\n# x\n(a and b);", row(
            text("not"), BLANK, text("("), self.chain(row(HARD, text("# x"), HARD, A), "and", B), text(")"), END))

    def chain(self, first, operator, second):
        return group(first, nest(2, BLANK, text(operator), SPACE, second))

    def test_fn(self):
        arrow = row(BLANK, text("->"), BLANK)
        self.check("[fn() -> a];", row(
            text("["), group(nest(2, EMPTY, text("fn"), text("("), text(")"), arrow, A), EMPTY), text("]"), END))
        self.check("fn(a, b, c) -> a;", row(
            text("fn"), text("("), A, COMMA, BLANK, B, COMMA, BLANK, C, text(")"), arrow, A, END))
        noted = row(HARD, text("# x"), HARD)
        self.check("fn(a,\n# x\nb) -> a;", row(text("fn"), text("("), A, COMMA, noted, B, text(")"), arrow, A, END))
        self.check("fn()\n# x\n-> a;", row(text("fn"), text("("), text(")"), noted, text("->"), BLANK, A, END))
        self.check("fn() ->\n# x\na;", row(text("fn"), text("("), text(")"), BLANK, text("->"), noted, A, END))

    def test_brackets(self):
        self.check("a();", row(A, text("("), text(")"), END))
        self.check("a(b);", row(A, text("("), group(nest(2, EMPTY, B), EMPTY), text(")"), END))
        self.check("a[b];", row(A, text("["), group(nest(2, EMPTY, B), EMPTY), text("]"), END))
        self.check("[a, b, c];", row(text("["), group(
            nest(2, EMPTY, A, COMMA, SPACE, B, COMMA, SPACE, C), EMPTY), text("]"), END))
        self.check("[];", row(text("["), text("]"), END))
        self.check("{a: b, c: b};", row(text("{"), group(nest(
            2, EMPTY, A, text(":"), BLANK, B, COMMA, SPACE, C, text(":"), BLANK, B), EMPTY), text("}"), END))
        self.check("{a:\n# x\nb};", row(text("{"), group(nest(
            2, EMPTY, A, text(":"), HARD, text("# x"), HARD, B), EMPTY), text("}"), END))
        self.check("{};", row(text("{"), text("}"), END))
        self.check("f(a, b);", row(text("f"), text("("), group(nest(5, EMPTY, A, COMMA, SPACE, B), EMPTY), text(")"), END), step=5)

    def test_fill(self):
        fill = ("fill", (row(A, COMMA), row(B, COMMA), C))
        self.check("[a, b, c];", row(text("["), group(nest(2, EMPTY, fill), EMPTY), text("]"), END), lists="fill")
        for string, sign, closing in (("f(a);", "(", ")"), ("f[a];", "[", "]")):
            self.check(string, row(text("f"), text(sign), group(nest(2, EMPTY, ("fill", (A,))), EMPTY), text(closing), END), lists="fill")
        self.check("f(a, fn() -> b);", row(text("f"), text("("), group(nest(2, EMPTY, ("fill", (
            row(A, COMMA), row(text("fn"), text("("), text(")"), BLANK, text("->"), BLANK, B)))), EMPTY), text(")"), END), lists="fill")
        self.check("{a: b, c: a};", row(text("{"), group(nest(2, EMPTY, ("fill", (
            row(A, text(":"), BLANK, B, COMMA), row(C, text(":"), BLANK, A)))), EMPTY), text("}"), END), lists="fill")
        self.check("[];", row(text("["), text("]"), END), lists="fill")

    def test_fill_with_comments(self):
        inside = row(A, COMMA, SPACE, B)
        noted = row(BLANK, text("# x"), HARD)
        ahead = row(HARD, text("# x"), HARD)
        # Comments of the brackets themselves, and those ahead of the one that closes them, are not between.
        for string, first, last in (("[ # x\na, b];", row(text("["), noted), text("]")), ("[a, b\n# x\n];", text("["), row(ahead, text("]"))),
                                    ("\n# x\n[a, b];", row(ahead, text("[")), text("]")), ("[a, b] # x\n;", text("["), row(text("]"), noted))):
            fill = ("fill", (row(A, COMMA), B))
            self.check(string, row(first, group(nest(2, EMPTY, fill), EMPTY), last, END), lists="fill")
            self.check(string, row(first, group(nest(2, EMPTY, inside), EMPTY), last, END), lists="rows")
        for string, items in (
                ("[a # x\n, b];", row(A, noted, COMMA, SPACE, B)), ("[a, # x\nb];", row(A, COMMA, noted, SPACE, B)),
                ("[a, b # x\n];", row(A, COMMA, SPACE, B, noted)), ("[\n# x\na, b];", row(ahead, A, COMMA, SPACE, B)),
                ("[a\n# x\n, b];", row(A, ahead, COMMA, SPACE, B))):
            for lists in ("fill", "rows"):
                self.check(string, row(text("["), group(nest(2, EMPTY, items), EMPTY), text("]"), END), lists=lists)
        # A comment within an inner pair stands between the outer brackets, too; another pair goes its own way.
        self.check("[[a # x\n], [b]];", row(text("["), group(nest(
            2, EMPTY, text("["), group(nest(2, EMPTY, A, noted), EMPTY), text("]"), COMMA, SPACE,
            text("["), group(nest(2, EMPTY, ("fill", (B,))), EMPTY), text("]")), EMPTY), text("]"), END), lists="fill")

    def test_chains(self):
        for operator in OPERATORS:
            if operator == "^":
                continue
            sign = text(operator)
            self.check(f"a {operator} b;", row(group(A, nest(2, BLANK, sign, SPACE, B)), END))
            self.check(f"a {operator} b;", row(group(A, nest(2, SPACE, sign, BLANK, B)), END), operators="ahead")
            one, other = row(BLANK, sign, SPACE), row(SPACE, sign, BLANK)
            if level_of(("two", operator, None, None)) == 4:
                inner = row(text("("), group(A, nest(2, one, B)), text(")"))
                self.check(f"(a {operator} b) {operator} c;", row(group(inner, nest(2, one, C)), END))
            else:
                self.check(f"a {operator} b {operator} c;", row(group(A, nest(2, one, B, one, C)), END))
                self.check(f"a {operator} b {operator} c;", row(group(A, nest(2, other, B, other, C)), END), operators="ahead")
            inner = row(text("("), group(B, nest(2, one, C)), text(")"))
            self.check(f"a {operator} (b {operator} c);", row(group(A, nest(2, one, inner)), END))

    def test_chains_of_one_level(self):
        plus, minus, times = (row(BLANK, text(sign), SPACE) for sign in "+-*")
        self.check("a - b + c;", row(group(A, nest(2, minus, B, plus, C)), END))
        self.check("a * b + c;", row(group(group(A, nest(2, times, B)), nest(2, plus, C)), END))
        self.check("a + b * c;", row(group(A, nest(2, plus, group(B, nest(2, times, C)))), END))
        self.check("a - (b + c);", row(group(A, nest(2, minus, text("("), group(B, nest(2, plus, C)), text(")"))), END))
        self.check("(a or b) and c;", row(group(
            text("("), group(A, nest(2, BLANK, text("or"), SPACE, B)), text(")"), nest(2, BLANK, text("and"), SPACE, C)), END))

    def test_comments_of_chains(self):
        noted = row(HARD, text("# x"), HARD)
        self.check("a\n# x\n+ b;", row(group(A, nest(2, noted, text("+"), SPACE, B)), END))
        self.check("a\n# x\n+ b;", row(group(A, nest(2, SPACE, noted, text("+"), BLANK, B)), END), operators="ahead")
        self.check("a +\n# x\nb;", row(group(A, nest(2, BLANK, text("+"), SPACE, noted, B)), END))
        self.check("a +\n# x\nb;", row(group(A, nest(2, SPACE, text("+"), noted, B)), END), operators="ahead")
        self.check("a +\n# x\n(b or c);", row(group(A, nest(2, SPACE, text("+"), BLANK, text("("), group(
            noted, B, nest(2, SPACE, text("or"), BLANK, C)), text(")"))), END), operators="ahead")

    def test_powers(self):
        power = row(BLANK, text("^"), BLANK)
        for operators in ("ahead", "behind"):
            self.check("a ^ b;", row(A, power, B, END), operators=operators)
            self.check("a ^ b ^ c;", row(A, power, B, power, C, END), operators=operators)
            self.check("(a ^ b) ^ c;", row(text("("), A, power, B, text(")"), power, C, END), operators=operators)
        self.check("a\n# x\n^ b;", row(A, HARD, text("# x"), HARD, text("^"), BLANK, B, END))
        self.check("a ^\n# x\nb;", row(A, BLANK, text("^"), HARD, text("# x"), HARD, B, END))

    def test_grouping_brackets_round_fn(self):
        fn = row(text("fn"), text("("), text(")"), BLANK, text("->"), BLANK, A)
        plus = row(BLANK, text("+"), SPACE)
        grouped = row(text("("), fn, text(")"))
        self.check("(fn() -> a).b;", row(grouped, text("."), B, END))
        self.check("(fn() -> a)();", row(grouped, text("("), text(")"), END))
        self.check("(fn() -> a) + b;", row(group(grouped, nest(2, plus, B)), END))
        self.check("b + fn() -> a;", row(group(B, nest(2, plus, fn)), END))
        self.check("b + (fn() -> a) + c;", row(group(B, nest(2, plus, grouped, plus, C)), END))
        self.check("(- (fn() -> a)) + c;", row(group(text("-"), grouped, nest(2, plus, C)), END))
        self.check("(- fn() -> a).b;", row(text("("), text("-"), fn, text(")"), text("."), B, END))

    def test_assignments(self):
        for sort in ("let", "set"):
            head = row(text(sort), BLANK, A, BLANK, text("="))
            self.check(sort + " a = b;", row(head, self.value(B), END))
            self.check(sort + " a = b;", row(head, self.value(B, step=7), END), step=7)
            noted = row(HARD, text("# x"), HARD)
            self.check(sort + "\n# x\na = b;", row(text(sort), noted, A, BLANK, text("="), self.value(B), END))
            self.check(sort + " a\n# x\n= b;", row(text(sort), BLANK, A, noted, text("="), self.value(B), END))
            self.check(sort + " a =\n# x\nb;", row(head, self.value(row(noted, B), blank=None), END))
            self.check(sort + " a = # x\nb;", row(head, BLANK, text("# x"), HARD, self.value(B), END))
            self.check(sort + " a =\n# x\n(fn() -> b)();", row(head, self.value(row(
                text("("), noted, text("fn"), text("("), text(")"), BLANK, text("->"), BLANK, B, text(")"), text("("), text(")"))), END))
            self.check(sort + " a = b\n# x\n;", row(head, self.value(B), noted, END))

    def test_give(self):
        self.check("give;", row(text("give"), END))
        self.check("give a;", row(text("give"), self.value(A), END))
        self.check("give\n# x\na;", row(text("give"), self.value(row(HARD, text("# x"), HARD, A), blank=None), END))
        self.check("give\n# x\n;", row(text("give"), HARD, text("# x"), HARD, END))

    def test_if(self):
        head = row(text("if"), BLANK, A, BLANK)
        bare = row(text("{"), text("}"))
        self.check("if a {}", row(head, bare))
        self.check("if a {} else {}", row(head, bare, BLANK, text("else"), BLANK, bare))
        self.check("if a {} else if b {} else {}", row(
            head, bare, BLANK, text("else"), BLANK, text("if"), BLANK, B, BLANK, bare, BLANK, text("else"), BLANK, bare))
        full = row(text("{"), nest(2, HARD, B, END), HARD, text("}"))
        self.check("if a { b; } else { b; }", row(head, full, BLANK, text("else"), BLANK, full))
        noted = row(HARD, text("# x"), HARD)
        for string, expected in (
                ("if\n# x\na {} else {}", row(text("if"), noted, A, BLANK, bare, BLANK, text("else"), BLANK, bare)),
                ("if a\n# x\n{} else {}", row(text("if"), BLANK, A, noted, bare, BLANK, text("else"), BLANK, bare)),
                ("if a {}\n# x\nelse {}", row(head, bare, noted, text("else"), BLANK, bare)),
                ("if a {} else\n# x\n{}", row(head, bare, BLANK, text("else"), noted, bare)),
                ("if a {} else\n# x\nif b {}", row(head, bare, BLANK, text("else"), noted, text("if"), BLANK, B, BLANK, bare))):
            self.check(string, expected)

    def test_loops_and_defs(self):
        bare, noted = row(text("{"), text("}")), row(HARD, text("# x"), HARD)
        self.check("while a {}", row(text("while"), BLANK, A, BLANK, bare))
        self.check("while\n# x\na {}", row(text("while"), noted, A, BLANK, bare))
        self.check("while a\n# x\n{}", row(text("while"), BLANK, A, noted, bare))
        self.check("for a in b {}", row(text("for"), BLANK, A, BLANK, text("in"), BLANK, B, BLANK, bare))
        for at in range(4):
            words = [text("for"), A, text("in"), B, bare]
            lines = ["for", "a", "in", "b", "{}"]
            parts = [part for place, word in enumerate(words) for part in (noted if place == at + 1 else BLANK, word)][1:]
            self.check(" ".join(lines[:at + 1]) + "\n# x\n" + " ".join(lines[at + 1:]), row(*parts))
        self.check("def a() {}", row(text("def"), BLANK, A, text("("), text(")"), BLANK, bare))
        self.check("def a(b, c) {}", row(text("def"), BLANK, A, text("("), B, COMMA, BLANK, C, text(")"), BLANK, bare))
        self.check("def\n# x\na() {}", row(text("def"), noted, A, text("("), text(")"), BLANK, bare))
        self.check("def a()\n# x\n{}", row(text("def"), BLANK, A, text("("), text(")"), noted, bare))
        self.check("def a(b,\n# x\nc) {}", row(text("def"), BLANK, A, text("("), B, COMMA, noted, C, text(")"), BLANK, bare))

    def test_blocks_and_blanks(self):
        for blanks in range(4):
            kept = [("blank",)] * min(3, blanks) or [HARD]
            inside = nest(2, HARD, A, END, *kept, B, END)
            self.check("while c {\n\na;\n\n\n\nb;\n\n}", row(
                text("while"), BLANK, C, BLANK, text("{"), inside, HARD, text("}")), blanks=blanks)
            self.check("a;\n\n\n\nb;", row(A, END, *kept, B, END), blanks=blanks)
            self.check("a;\n\n\n\n\n\nb;", row(A, END, *[("blank",)] * blanks or [HARD], B, END), blanks=blanks)
            self.check("a;\n\nb;", row(A, END, *[("blank",)] * min(1, blanks) or [HARD], B, END), blanks=blanks)
            self.check("a;\nb;", row(A, END, HARD, B, END), blanks=blanks)
        self.check("def a() { b; }", row(
            text("def"), BLANK, A, text("("), text(")"), BLANK, text("{"), nest(8, HARD, B, END), HARD, text("}")), step=8)

    def test_end(self):
        one, other = text("# x"), ("raw", ("<* y", "*>"))
        self.assertEqual(document_of(page_of(""), STYLE), row())
        self.check("# x", one)
        self.check("\n\n# x\n\n\n<* y\n*>", row(one, HARD, other))
        self.check("a;\n# x\n\n<* y\n*>", row(A, END, HARD, one, HARD, other))
        self.check("a;\n\n\n\n# x", row(A, END, ("blank",), ("blank",), one), blanks=2)
        self.check("a;\n\n\n\n# x", row(A, END, HARD, one), blanks=0)
        self.check("a; # y\n# x", row(A, END, BLANK, text("# y"), HARD, HARD, one))

    def test_comments_of_a_word(self):
        self.check("# x\n<* y *>\na <* p *> <* q\n*> ;", row(
            HARD, text("# x"), HARD, HARD, text("<* y *>"), HARD, A, BLANK, text("<* p *>"), BLANK, ("raw", ("<* q", "*>")), END))
        self.check("a <* p *> # q  \n;", row(A, BLANK, text("<* p *>"), BLANK, text("# q"), HARD, END))


class Plainly(unittest.TestCase):
    def check(self, page, style):
        found = document_of(page, style)
        self.assertTrue(is_document(found))
        self.assertEqual(plain_pages.flattened(found), plain_pages.document(page, style))

    def test_comments_everywhere(self):
        source = random.Random(28)
        for string in TEXTS:
            for noted in commented(string):
                self.check(page_of(noted), any_style(source))

    def test_any_pages(self):
        for number in range(2000):
            source = random.Random(number)
            page = any_text(2800 + number)[1]
            self.check(page, any_style(source))
            self.check((page[0], {}, {}), any_style(source))

    def test_each_expression_within_each(self):
        style = style_with(operators="ahead", lists="fill")
        for outer in samples.wrappers():
            for inner in samples.wrappers():
                for tree in (samples.A, ("fn", (), samples.A)):
                    self.check((tuple(samples.statements_with(outer(inner(tree)))), {}, {}), style)

    def test_the_order_of_keys_changes_nothing(self):
        page = page_of("# a\na; # b\n\nb;\n\n\nif c { # d\nd;\n\ne; }\n\n# f")
        turned = (page[0],) + tuple({key: table[key] for key in sorted(table, reverse=True)} for table in page[1:])
        kept = repr(turned)
        self.assertEqual(document_of(turned, STYLE), document_of(page, STYLE))
        self.assertEqual(repr(turned), kept)
        self.assertEqual(in_order(turned), page)


class Layouts(unittest.TestCase):
    """Point 6: in every layout the words, the comments and their owners are the same."""

    def check(self, page, style):
        document = document_of(page, style)
        if choices_in(document) > 7:
            return 0
        for _, string in all_layouts(document):
            self.assertEqual(page_of(string), clipped(page, style[2]), string)
        return 1

    def test_comments_everywhere(self):
        source = random.Random(6)
        for string in TEXTS:
            for noted in commented(string):
                if source.random() < 0.25:
                    self.check(page_of(noted), any_style(source))

    def test_any_pages(self):
        many = 0
        for number in range(700):
            many += self.check(any_text(600 + number)[1], any_style(random.Random(number)))
        self.assertGreater(many, 300)

    def test_owners_are_told(self):
        string = "a(b # one\n, <* two *>\nc); # three\n\n# four\nlet d = # five\n(e);\n# six"
        page = page_of(string)
        told = [(comment, index, side) for comment, _, index, side in owned(string)]
        for style in (STYLE, style_with(operators="ahead", lists="fill", step=0, blanks=0), style_with(blanks=3, width=8)):
            for _, layout in all_layouts(document_of(page, style)):
                self.assertEqual([(comment, index, side) for comment, _, index, side in owned(layout)], told)
                self.assertEqual(row_of(page_of(layout)[0]), row_of(page[0]))

    def test_every_kind_of_comment(self):
        for comment in LINES + BLOCKS + TALL:
            for string in (f"a {comment}\n;", f"a;\n{comment}\nb;", f"let a =\n{comment}\n(b + c) * d;", f"[a, {comment}\nb];"):
                page = page_of(string)
                self.assertEqual(self.check(page, STYLE), 1)
                best = best_by_all(8, STYLE[3], document_of(page, STYLE))[2]
                self.assertEqual(page_of(best), page)


if __name__ == "__main__":
    unittest.main()
