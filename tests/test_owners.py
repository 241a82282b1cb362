"""Point 18: comments and their owners, empty lines."""

import random
import unittest

from leastlaid.errors import Faulty
from leastlaid.owners import blank_lines, can_be_behind, is_line_comment, owned, spans_lines, written
from leastlaid.reading import faults_of
from leastlaid.rows import words_of
from tests import samples
from tests.writing import BLOCKS, LINES, TALL, write


def briefly(text):
    """Owners without their places."""
    return [(comment, index, word) for comment, _, index, word in owned(text)]


class Comments(unittest.TestCase):
    def test_sorts(self):
        for comment in LINES + BLOCKS + TALL:
            self.assertIs(is_line_comment(comment), comment in LINES)
            self.assertIs(spans_lines(comment), comment in TALL)

    def test_written(self):
        for comment in LINES + BLOCKS + TALL:
            self.assertEqual(written(comment), comment)
        for comment in LINES:
            self.assertEqual(written(comment + " "), comment)
            self.assertEqual(written(comment + "     "), comment)
        self.assertEqual(written("#   a   b   "), "#   a   b")
        self.assertEqual(written("<*  a  *>"), "<*  a  *>")
        self.assertEqual(written("<* a  \n  *>"), "<* a  \n  *>")

    def test_can_be_behind(self):
        self.assertIs(can_be_behind(()), True)
        for comment in LINES + BLOCKS + TALL:
            self.assertIs(can_be_behind((comment,)), True)
            self.assertIs(can_be_behind(("<**>", comment)), True)
            self.assertIs(can_be_behind(("<**>", "<* a *>", comment)), True)
            for behind in LINES[:1] + BLOCKS[:1] + TALL[:1]:
                self.assertIs(can_be_behind((comment, behind)), comment in BLOCKS)
                self.assertIs(can_be_behind(("<**>", comment, behind)), comment in BLOCKS)
                self.assertIs(can_be_behind((comment, "<**>", behind)), comment in BLOCKS)


class Owned(unittest.TestCase):
    def test_none(self):
        for text in ("", "\n", "a;", "let a = (b);\n\n", '["# a", \'\'\'<* *>\'\'\'];'):
            self.assertEqual(owned(text), [])
            self.assertIs(type(owned(text)), list)

    def test_comments_alone(self):
        self.assertEqual(owned("# a"), [("# a", (0, 0), 0, "ahead")])
        self.assertEqual(owned("\n <* a *>  # b  \n<*\n*> #\n"), [
            ("<* a *>", (1, 1), 0, "ahead"), ("# b", (1, 10), 0, "ahead"), ("<*\n*>", (2, 0), 0, "ahead"), ("#", (3, 3), 0, "ahead")])

    def test_every_place_of_a_statement(self):
        words = "let a = ( b + f ( c ) [ 1 ] . d ) * - fn ( x , y ) -> { e : none } ;".split()
        grouping = (3, 15)
        for at in range(len(words) + 1):
            index = at - sum(place < at for place in grouping)
            for comment in LINES + BLOCKS + TALL:
                same = " ".join(words[:at] + [comment]) + "\n" + " ".join(words[at:])
                owner = (index - 1, "behind") if index else (0, "ahead")
                begin = len(" ".join(words[:at])) + (at > 0)
                self.assertEqual(owned(same), [(comment, (0, begin)) + owner], same)
                apart = " ".join(words[:at]) + "\n  " + comment + "\n" + " ".join(words[at:])
                self.assertEqual(owned(apart), [(comment, (1, 2), index, "ahead")], apart)

    def test_the_end(self):
        self.assertEqual(owned("a; # b"), [("# b", (0, 3), 1, "behind")])
        self.assertEqual(owned("a;\n# b"), [("# b", (1, 0), 2, "ahead")])
        self.assertEqual(owned("a;\n# b\n<* c *> # d  \n\n"), [
            ("# b", (1, 0), 2, "ahead"), ("<* c *>", (2, 0), 2, "ahead"), ("# d", (2, 8), 2, "ahead")])
        self.assertEqual(briefly("if a { # b\n# c\n} # d\n# e"), [
            ("# b", 2, "behind"), ("# c", 3, "ahead"), ("# d", 3, "behind"), ("# e", 4, "ahead")])

    def test_several_behind_one_word(self):
        self.assertEqual(briefly("a <* b *> <* c *># d\n;"), [
            ("<* b *>", 0, "behind"), ("<* c *>", 0, "behind"), ("# d", 0, "behind")])
        self.assertEqual(briefly("a<* b *><* c\n*> <* d *> ; # e"), [
            ("<* b *>", 0, "behind"), ("<* c\n*>", 0, "behind"), ("<* d *>", 1, "ahead"), ("# e", 1, "behind")])
        self.assertEqual(briefly("a <*\n*> # b\n# c\n;"), [
            ("<*\n*>", 0, "behind"), ("# b", 1, "ahead"), ("# c", 1, "ahead")])

    def test_words_over_several_lines(self):
        text = "let a = '''b\nc''' # d\n# e\n+ f;"
        self.assertEqual(owned(text), [("# d", (1, 5), 3, "behind"), ("# e", (2, 0), 4, "ahead")])
        self.assertEqual(briefly("f('''\n\n'''# a\n);"), [("# a", 2, "behind")])
        self.assertEqual(briefly("'''a\nb'''\n# c\n;"), [("# c", 1, "ahead")])

    def test_grouping_brackets(self):
        self.assertEqual(briefly("let a = ( # b\nc);"), [("# b", 2, "behind")])
        self.assertEqual(briefly("let a = (\n# b\nc);"), [("# b", 3, "ahead")])
        self.assertEqual(briefly("let a =\n( # b\nc);"), [("# b", 3, "ahead")])
        self.assertEqual(briefly("let a = (c\n) # b\n;"), [("# b", 4, "ahead")])
        self.assertEqual(briefly("let a = (c) # b\n;"), [("# b", 3, "behind")])
        self.assertEqual(briefly("let a = (c # b\n);"), [("# b", 3, "behind")])
        self.assertEqual(briefly("let a = (c\n# b\n);"), [("# b", 4, "ahead")])
        self.assertEqual(briefly("( # a\n( <* b *> c));"), [("# a", 0, "ahead"), ("<* b *>", 0, "ahead")])
        self.assertEqual(briefly("a; ( # b\nc);"), [("# b", 1, "behind")])
        self.assertEqual(briefly("((f)( # a\n(b))) # c\n;"), [("# a", 1, "behind"), ("# c", 3, "behind")])
        self.assertEqual(briefly("(f)\n( # a\n);"), [("# a", 1, "behind")])
        self.assertEqual(briefly("if a { }\n( # b\nc);"), [("# b", 4, "ahead")])
        self.assertEqual(briefly("{ }\n( # b\nc);"), [("# b", 2, "behind")])

    def test_line_comments_lose_blanks(self):
        self.assertEqual(owned("a;  # b   \n  #   \n"), [("# b", (0, 4), 1, "behind"), ("#", (1, 2), 2, "ahead")])
        self.assertEqual(owned("<* a  *>  \n"), [("<* a  *>", (0, 0), 0, "ahead")])

    def test_faulty(self):
        for text in ("let", "!", "(", "a # b", "# a\n;", 'a; " # b', "if a { b }"):
            for function in (owned, blank_lines):
                with self.assertRaises(Faulty) as caught:
                    function(text)
                self.assertEqual(caught.exception.faults, tuple(faults_of(text)))
                self.assertIs(type(caught.exception.faults), tuple)

    def test_the_list_is_the_callers(self):
        owned("# a").append(None)
        self.assertEqual(len(owned("# a")), 1)


class BlankLines(unittest.TestCase):
    def test_none(self):
        for text in ("", "\n\n\n", "a;", "\n\n\na;", "# a", "\n\n# a\n\n", "if a { }", "\n\nif a {\n\n\nb; }\n\n", "a; # b\n\n",
                     "if a { } else\n\n\nif b { }", "let a\n\n\n=\n\n\nb\n\n\n;", "if a\n\n\n{ }\n\n\nelse\n\n\n{\n\n\nb; }"):
            self.assertEqual(blank_lines(text), {}, text)

    def test_statements(self):
        self.assertEqual(blank_lines("a;b;"), {2: 0})
        self.assertEqual(blank_lines("a; b;"), {2: 0})
        self.assertEqual(blank_lines("a;\nb;"), {2: 0})
        self.assertEqual(blank_lines("a;\n\nb;"), {2: 1})
        self.assertEqual(blank_lines("a;\n\n\n\n  b;\n\nc;\n\n\n"), {2: 3, 4: 1})
        self.assertEqual(blank_lines("a;  \n   \n \n  b;"), {2: 2})
        self.assertIs(type(blank_lines("a; b;")), dict)

    def test_every_statement(self):
        for text, size in (("a;", 2), ("let a = b;", 5), ("set a = b;", 5), ("give;", 2), ("give b;", 3), ("if a { }", 4), ("while a { }", 4),
                           ("for a in b { }", 6), ("def f() { }", 6), ("[];", 3), ("{};", 3), ("-a;", 3), ("fn() -> a;", 6)):
            self.assertEqual(blank_lines(text + "\n\n" + text + "\n\n\n" + text), {size: 1, 2 * size: 2})

    def test_blocks(self):
        self.assertEqual(blank_lines("if a {\n\n\nb;\n\nc;\n\n\n}\n\n\n\nd;"), {5: 1, 8: 3})
        self.assertEqual(blank_lines("a;\n\nwhile b {\n\nc;\n\n\nd;\n\n}"), {2: 1, 7: 2})
        self.assertEqual(blank_lines("def f() {\n\nwhile a {\n\nb;\nc;\n\nd; }\n\n\ne; }"), {10: 0, 12: 1, 15: 2})
        self.assertEqual(blank_lines("for a in b {\n\nc;\n\nd; }"), {7: 1})

    def test_ifs(self):
        text = "if a { b;\n\nc; }\n\nelse\n\n{\n\nd;\n\n\ne; }\n\n\n\nf;"
        self.assertEqual(blank_lines(text), {5: 1, 12: 2, 15: 3})
        text = "a;\n\nif b { } else\n\n\nif c {\n\nd;\n\n\ne; } else { }\n\nf;"
        self.assertEqual(blank_lines(text), {2: 1, 12: 2, 18: 1})
        text = "if a { } else {\n\nif b { }\n\nif c { }\n}"
        self.assertEqual(blank_lines(text), {10: 1})
        self.assertEqual(blank_lines("if a { }\n\nif b { }"), {4: 1})
        self.assertEqual(blank_lines("if a { } else # b\n\n\nif b { }"), {})

    def test_comments_ahead(self):
        self.assertEqual(blank_lines("a;\n\n\n# b\n\n\n\n# c\n\nd;"), {2: 2})
        self.assertEqual(blank_lines("a;\n# b\n\n\nc;"), {2: 0})
        self.assertEqual(blank_lines("a;\n\n<* b *> c;"), {2: 1})
        self.assertEqual(blank_lines("a;\n\n<* b\n\n\n*>\n\n\nc;"), {2: 1})
        self.assertEqual(blank_lines("# a\n\n\nb;\n\nc;"), {2: 1})
        self.assertEqual(blank_lines("if a {\n\n# b\n\nc;\n\n# d\n\n\ne;\n\n# f\n\n}"), {5: 1})

    def test_comments_behind(self):
        self.assertEqual(blank_lines("a; # b\n\n\nc;"), {2: 2})
        self.assertEqual(blank_lines("a; # b   \n  \n\nc;"), {2: 2})
        self.assertEqual(blank_lines("a; # b\nc;"), {2: 0})
        self.assertEqual(blank_lines("a; <* b *> c;"), {2: 0})
        self.assertEqual(blank_lines("a; <* b\n\n\n*> c;"), {2: 0})
        self.assertEqual(blank_lines("a; <* b\n\n\n*>\n\nc;"), {2: 1})
        self.assertEqual(blank_lines("a; # b\n\n# c\n\n\n\nd;"), {2: 1})
        self.assertEqual(blank_lines("a; <* b\n*> # c\n\n\nd;"), {2: 0})

    def test_grouping_brackets(self):
        self.assertEqual(blank_lines("a;\n\n(\n\n\nb).c;"), {2: 1})
        self.assertEqual(blank_lines("a;\n(\n\n\nb).c;"), {2: 0})
        self.assertEqual(blank_lines("a;\n\n\n(\n(b)).c;"), {2: 2})
        self.assertEqual(blank_lines("a;\n\n( # b\n\n\nc);"), {2: 1})
        self.assertEqual(blank_lines("a; ( # b\n\n\nc);"), {2: 0})
        self.assertEqual(blank_lines("a;\n\n# b\n\n\n(\n\n\n\nc);"), {2: 1})
        self.assertEqual(blank_lines("a;\n\n(\n# b\n\n\n(\n\n\n\nc));"), {2: 1})
        self.assertEqual(blank_lines("a;\n\n\n((fn() -> b))\n\n();"), {2: 2})
        self.assertEqual(blank_lines("if a { b;\n\n(\n\n\nc); }"), {5: 1})
        self.assertEqual(blank_lines("a;\n\n(b\n\n)\n\n\n;\n(c);"), {2: 1, 4: 0})
        self.assertEqual(blank_lines("a;\n\n[(\n\n\nb)];"), {2: 1})

    def test_the_end(self):
        self.assertEqual(blank_lines("a;\n# b"), {2: 0})
        self.assertEqual(blank_lines("a;\n\n\n# b\n\n\n\n# c\n\n"), {2: 2})
        self.assertEqual(blank_lines("a; # b\n\n\n\n<* c *>"), {2: 3})
        self.assertEqual(blank_lines("a; <* b\n*> # c"), {2: 0})
        self.assertEqual(blank_lines("a; # b"), {})
        self.assertEqual(blank_lines("a;\n\nb;\n\n\n# c"), {2: 1, 4: 2})
        self.assertEqual(blank_lines("if a { }\n \n# b"), {4: 1})
        self.assertEqual(blank_lines("\n\n\n# a\n\n\n# b"), {})

    def test_keys_ascend(self):
        for program in samples.programs(18, 200):
            text = "\n\n".join(word for word, _ in words_of(program)) + "\n\n# end"
            found = blank_lines(text)
            self.assertEqual(list(found), sorted(found))
            self.assertTrue(all(type(many) is int for many in found.values()))

    def test_the_dict_is_the_callers(self):
        blank_lines("a; b;")[2] = 5
        self.assertEqual(blank_lines("a; b;"), {2: 0})


class AnyTexts(unittest.TestCase):
    """Texts that are written word by word, keeping account of what is told of them."""

    def test_any_texts(self):
        for seed in range(1500):
            source = random.Random(seed)
            program = samples.any_block(source, 2)
            text, comments, empty = write(program, source)
            self.assertEqual(owned(text), comments, text)
            self.assertEqual(blank_lines(text), empty, text)


class Bounds(unittest.TestCase):
    def test_long_ones(self):
        self.assertEqual(owned("#\n" * 2000), [("#", (at, 0), 0, "ahead") for at in range(2000)])
        self.assertEqual(owned("a;#\n" * 1000), [("#", (at, 2), 2 * at + 1, "behind") for at in range(1000)])
        self.assertEqual(blank_lines("a;\n\n" * 1000), {2 * at: 1 for at in range(1, 1000)})
        self.assertEqual(blank_lines("a;" + "\n" * 3996 + "b;"), {2: 3995})
        self.assertEqual(owned("a; #" + " " * 3996), [("#", (0, 3), 1, "behind")])

    def test_twenty_deep(self):
        text = "a;\n\n" + "( # b\n" * 20 + "c" + ")" * 20 + "; # d"
        expected = [("# b", (2 + at, 2), 2, "ahead") for at in range(20)] + [("# d", (22, 23), 3, "behind")]
        self.assertEqual(owned(text), expected)
        self.assertEqual(blank_lines(text), {2: 1})
        text = "if a {\n\n" * 20 + "b;\n\nc;" + "}" * 20
        self.assertEqual(blank_lines(text), {62: 1})


if __name__ == "__main__":
    unittest.main()
