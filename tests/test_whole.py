"""What holds over the whole program: points 3, 5 to 7, 9 and 10, and all roads to one text."""

import random
import unittest

from leastlaid.badness import over_of
from leastlaid.changes import change_between
from leastlaid.checker import check, is_formatted, report
from leastlaid.desk import Desk
from leastlaid.edits import all_changed, changes_to, edits_of, gaps_of, items_of
from leastlaid.formatting import (
    formatted, formatted_page, is_paper, joined_shares, least_of, paper_of, shares_of, statement_documents)
from leastlaid.keeper import Keeper
from leastlaid.owners import owned
from leastlaid.pages import clipped, page_of, same_page, text_of
from leastlaid.printing import document_of
from leastlaid.project import Project, after_writes, layers_in, wanted_files, words_for, writes_for
from leastlaid.ranges import bundles, format_bundles, format_lines, met
from leastlaid.reading import faults_of, read_program, read_row
from leastlaid.rows import plain_text, words_of
from leastlaid.styletexts import show_layer
from leastlaid.styles import named
from tests import samples
from tests.documents import RANKS
from tests.writing import any_style, any_text, bracketed

STYLE = (30, 2, 1, RANKS[0], "ahead", "fill")
TEXT = "# a\nlet b=(c+d)*e; # f\n\n\n\n( # g\nh(1,2)).i;if j{k;\n\n\nl;}else{}\n\n# m\n"


def shown(text):
    """A text as the STRING of a line."""
    return text.replace("\\", "\\\\").replace("\n", "\\n")


def answered(lines):
    """The text that a Desk shows by lines."""
    return "\n".join(lines)


class AllRoads(unittest.TestCase):
    def hold(self, text, style):
        expected = formatted(text, style)
        page = page_of(text)
        self.assertEqual(formatted_page(page, style), expected)
        self.assertEqual(joined_shares(page, style, shares_of(page, style)), expected)
        self.assertEqual(format_bundles(text, style, tuple(range(len(bundles(text))))), expected)
        self.assertEqual(format_lines(text, style, 0, text.count("\n")), expected)
        self.assertEqual(all_changed(text, edits_of(text, style)), expected)
        keeper = Keeper("", style)
        keeper.change(change_between("", text))
        self.assertEqual(keeper.formatted(), expected)
        keeper.take_over()
        self.assertEqual([keeper.text(), keeper.formatted()], [expected, expected])
        project = Project({"a/b": text, "a/style": show_layer(named(style))}, STYLE)
        self.assertEqual(project.run(9), ["a/b"] if expected != text else [])
        self.assertEqual(project.files()["a/b"], expected)
        desk = Desk({}, style)
        desk.execute("put x " + shown(text))
        self.assertEqual(answered(desk.execute("want x")), expected)
        desk.execute("run 1")
        self.assertEqual(answered(desk.execute("show x")), expected)
        self.assertEqual(desk.project().files(), {"x": expected})
        return expected

    def test_any_texts(self):
        for number in range(100):
            text, page = any_text(5000 + number, deep=1 + number % 2, blocks=1 + number % 3)
            style = any_style(random.Random(number))
            expected = self.hold(text, style)
            self.assertEqual(self.hold(expected, style), expected)
            self.assertTrue(is_formatted(expected, style))
            self.assertTrue(same_page(page_of(expected), clipped(page, style[2])))
            self.assertEqual(least_of(page, style)[:2], (over_of(expected, style[0]), expected.count("\n")))

    def test_some_texts(self):
        for text in (TEXT, "", "\n", "# a", "a;", "'''a\n b''' # c\n;", "<* a\n*>b;<* c\n*>", "a; ( # b\n\nc).d;", "a; ( <* b\n*>\nc);# d"):
            for style in (STYLE, (8, 0, 0, RANKS[3], "behind", "rows"), (120, 8, 3, RANKS[5], "ahead", "rows")):
                self.hold(self.hold(text, style), style)

    def test_by_line(self):
        # Lines formatted one behind the other, from the last one on, come to the formatted text, too.
        for number in range(40):
            text = any_text(5300 + number, deep=1, blocks=2)[0]
            style = any_style(random.Random(number))
            expected = formatted(text, style)
            for first, last, _ in bundles(text)[::-1]:
                text = format_lines(text, style, first, last)
            self.assertEqual(text if text.strip() else "", expected)

    def test_words_are_read_again(self):
        for number in range(60):
            source = random.Random(number)
            program = samples.any_block(source, 2)
            text = bracketed(program, source)
            self.assertEqual(read_program(text), program)
            self.assertEqual(read_program(plain_text(program)), program)
            self.assertEqual(read_row(tuple(word for word, _ in words_of(program))), program)
            self.assertEqual(read_program(formatted(text, STYLE)), program)


class Edits(unittest.TestCase):
    """Point 10: after any row of edits the text is that of formatting from nothing."""

    def test_typed_sign_by_sign(self):
        keeper = Keeper("", STYLE)
        for at, sign in enumerate(TEXT):
            keeper.change((at, at, sign))
            if keeper.faults():
                self.assertEqual(keeper.faults(), tuple(faults_of(TEXT[:at + 1])))
            else:
                self.assertEqual(keeper.formatted(), formatted(TEXT[:at + 1], STYLE))
        many = keeper.laid_out()
        for at in range(len(TEXT), 0, -1):
            self.assertEqual(keeper.text(), TEXT[:at])
            keeper.undo()
        self.assertEqual([keeper.text(), keeper.formatted(), keeper.laid_out()], ["", "", many])

    def test_projects_led_as_files_are_changed(self):
        project = Project({"style": "width = 30"}, STYLE)
        for at in range(1, len(TEXT), 7):
            project.put("a", TEXT[:at])
            project.put("lib/a", TEXT[:at])
            project.put("lib/style", "step = " + str(at % 9))
            self.assertEqual(project.left(), len(writes_for(project.files(), STYLE)))
            project.run(99)
            self.assertEqual(project.files(), wanted_files(project.files(), STYLE))


class Unchanged(unittest.TestCase):
    """Point 3: nothing handed in is changed, and what is told is the caller's, whatever was called before."""

    def calls(self):
        page = page_of(TEXT)
        turned = (page[0],) + tuple({key: table[key] for key in sorted(table, reverse=True)} for table in page[1:])
        files = {"b": TEXT, "a/style": "step = 4", "a/c": TEXT, "a/b/style": "let"}
        changes = [(0, 0, "x"), (3, 4, "")]
        writes = [("c", "d"), ("b", "e")]
        calls = [(function, (TEXT, STYLE)) for function in (formatted, edits_of, check, report, is_formatted)]
        calls += [(function, (turned, STYLE)) for function in (
            document_of, formatted_page, statement_documents, shares_of, paper_of, least_of)]
        calls += [(function, (TEXT,)) for function in (bundles, gaps_of, items_of, page_of, owned, faults_of)]
        calls += [(function, (files, STYLE)) for function in (wanted_files, writes_for, words_for)]
        calls += [
            (is_paper, (turned, STYLE, formatted(TEXT, STYLE), paper_of(page, STYLE))), (met, (TEXT, 0, 3)), (layers_in, (files,)),
            (all_changed, (TEXT, changes)), (changes_to, (TEXT, formatted(TEXT, STYLE))), (after_writes, (files, writes, 1)),
            (joined_shares, (turned, STYLE, ("a", "b", "c"))), (text_of, (turned,))]
        return calls

    def test_calls(self):
        calls = self.calls()
        told = []
        for function, arguments in calls:
            kept = repr(arguments)
            told.append(repr(function(*arguments)))
            self.assertEqual(repr(arguments), kept, function)
        order = list(range(len(calls)))
        random.Random(3).shuffle(order)
        for at in order + order[::-1]:
            function, arguments = calls[at]
            found = function(*arguments)
            self.assertEqual(repr(found), told[at], function)
            if isinstance(found, (list, dict)):
                self.assertIsNot(found, function(*arguments))
                found.clear()
                self.assertEqual(repr(function(*arguments)), told[at], function)

    def test_truths_are_truths(self):
        for text in (TEXT, formatted(TEXT, STYLE), "let"):
            self.assertIn(is_formatted(text, STYLE), (True, False))
            self.assertIs(type(is_formatted(text, STYLE)), bool)


if __name__ == "__main__":
    unittest.main()
