"""Point 19: pages; and what points 6 and 9 say of them."""

import random
import unittest

from leastlaid.cutting import cut
from leastlaid.errors import Faulty
from leastlaid.owners import blank_lines, owned
from leastlaid.pages import (
    bare, clipped, in_order, is_page, page_of, parted, put_together, same_page, text_of)
from leastlaid.reading import faults_of, read_program
from leastlaid.rows import row_of, statement_spans
from tests import samples
from tests.values import OTHERS, STRANGE
from tests.writing import BLOCKS, LINES, TALL, page_told, write

STATEMENT = "let a = ( b + f ( c ) [ 1 ] . d ) * - fn ( x , y ) -> { e : none } ;".split()
GROUPING = (3, 15)
# A program of each sort of statement, in blocks, with else ifs, with grouping brackets, and its page.
TEXT = """# top

let a = 1; # one


if a { # two
  b;

  ((c + d)) * e; <* three *>
  # four
} else if f {
  g;


  # five

  (
  (h)
  ).i;
} else { j; }
<* six *>
def k(x) {
  while l { for m in n { set o = p; } give; }

  give q;
}


# seven
<* eight *>
"""
SHUFFLED = (
    (("do", ("name", "a")), ("do", ("name", "b"))),
    {4: (("# d",), ()), 0: (("# a",), ("<* b *>",)), 2: ((), ("# c",))},
    {4: 3, 2: 1})


def any_pages(seed, many):
    """Pages of texts that are written word by word, with these texts."""
    for number in range(many):
        source = random.Random(seed + number)
        program = samples.any_block(source, 2)
        text, comments, empty = write(program, source)
        yield page_told(program, comments, empty), text


def backwards(page):
    """A page with the keys of its dicts the other way round."""
    return (page[0],) + tuple({key: table[key] for key in sorted(table, reverse=True)} for table in page[1:])


def keys(page):
    return [list(table) for table in page[1:]]


class PageOf(unittest.TestCase):
    def test_few(self):
        self.assertEqual(page_of(""), ((), {}, {}))
        self.assertEqual(page_of("\n\n  \n"), ((), {}, {}))
        self.assertEqual(page_of("a;"), ((("do", ("name", "a")),), {}, {}))
        self.assertEqual(page_of("\n\n# a\n\n\n<* b\n*>"), ((), {0: (("# a", "<* b\n*>"), ())}, {}))
        self.assertIs(type(page_of("")), tuple)

    def test_a_whole_one(self):
        program, notes, blanks = page_of(TEXT)
        self.assertEqual(program, read_program(TEXT))
        row = row_of(program)
        end = len(row)
        self.assertEqual(
            [(index, ("END",) if index == end else row[index], note) for index, note in notes.items()], [
                (0, "let", (("# top",), ())), (4, ";", ((), ("# one",))), (7, "{", ((), ("# two",))),
                (15, ";", ((), ("<* three *>",))), (16, "}", (("# four",), ())), (23, "h", (("# five",), ())),
                (33, "def", (("<* six *>",), ())), (end, ("END",), (("# seven", "<* eight *>"), ()))])
        self.assertEqual([(row + ("END",))[index] for index in blanks], ["if", "c", "h", "give", "END"])
        self.assertEqual(list(blanks.values()), [2, 1, 2, 1, 2])

    def test_a_comment_at_every_word(self):
        for at in range(len(STATEMENT) + 1):
            index = at - sum(place < at for place in GROUPING)
            for comment in LINES + BLOCKS + TALL:
                same = " ".join(STATEMENT[:at] + [comment]) + "\n" + " ".join(STATEMENT[at:])
                notes = {index - 1: ((), (comment,))} if index else {0: ((comment,), ())}
                self.assertEqual(page_of(same), (read_program(same), notes, {}), same)
                apart = " ".join(STATEMENT[:at]) + "\n  " + comment + "  \n" + " ".join(STATEMENT[at:])
                self.assertEqual(page_of(apart), (read_program(apart), {index: ((comment,), ())}, {}), apart)
                both = " ".join(STATEMENT[:at] + ["<* a *>"]) + "\n" + comment + "\n<**> " + " ".join(STATEMENT[at:])
                told = {index: ((comment, "<**>"), ())}
                if index:
                    told = {index - 1: ((), ("<* a *>",)), **told}
                else:
                    told = {0: (("<* a *>", comment, "<**>"), ())}
                self.assertEqual(page_of(both)[1], told, both)

    def test_both_sides_of_one_word(self):
        self.assertEqual(page_of("# a\n<* b *> c # d\n;")[1], {0: (("# a", "<* b *>"), ("# d",))})
        self.assertEqual(page_of("c;\n# a\nd <* b *> <* e\n*> ;")[1], {2: (("# a",), ("<* b *>", "<* e\n*>"))})

    def test_line_comments_lose_blanks(self):
        self.assertEqual(page_of("a;  # b   \n  #   \n")[1], {1: ((), ("# b",)), 2: (("#",), ())})

    def test_blanks_of_none_are_left_out(self):
        self.assertEqual(page_of("a; b;\nc;\n\nd;\n# e")[2], {6: 1})
        self.assertEqual(page_of("a; b;\nc;\n\nd;\n\n# e")[2], {6: 1, 8: 1})
        self.assertEqual(page_of("\n\na;\n\n")[2], {})
        self.assertEqual(page_of("if a {\n\nb;\n\n\nc;\n\n} else\n\nif d { }")[2], {5: 2})
        self.assertEqual(page_of("a;\n\n( # b\n\n\n(c).d);")[2], {2: 1})
        self.assertEqual(page_of("a;\n\n\n# b\n\n((\nc));")[2], {2: 2})

    def test_any_texts(self):
        for page, text in any_pages(19, 1500):
            found = page_of(text)
            self.assertEqual(found, page, text)
            self.assertEqual(keys(found), keys(page), text)
            for _, behind in found[1].values():
                self.assertIs(type(behind), tuple)

    def test_it_is_what_the_owners_tell(self):
        for _, text in any_pages(119, 200):
            _, notes, blanks = page_of(text)
            told = [
                (comment, index, side) for index, note in notes.items()
                for side, comments in zip(("ahead", "behind"), note) for comment in comments]
            self.assertEqual(told, [(comment, index, side) for comment, _, index, side in owned(text)])
            self.assertEqual(blanks, {index: many for index, many in blank_lines(text).items() if many})

    def test_faulty(self):
        for text in ("let", "!", "(", "a # b", "# a\n;", 'a; " # b', "if a { b }", "let 1 = 2; f(a b); give", "! !\n\"", ") ) ("):
            with self.assertRaises(Faulty) as caught:
                page_of(text)
            self.assertEqual(caught.exception.faults, tuple(faults_of(text)))
            self.assertIs(type(caught.exception.faults), tuple)

    def test_it_is_the_callers(self):
        page = page_of(TEXT)
        page[1].clear()
        page[2][0] = 5
        self.assertEqual(len(page_of(TEXT)[1]), 8)
        self.assertEqual(len(page_of(TEXT)[2]), 5)


class IsPage(unittest.TestCase):
    def check(self, thing, expected):
        self.assertIs(is_page(thing), expected, thing)

    def test_pages_are(self):
        self.check(((), {}, {}), True)
        self.check(page_of(TEXT), True)
        self.check(backwards(page_of(TEXT)), True)
        self.check(SHUFFLED, True)
        for page, _ in any_pages(29, 400):
            self.check(page, True)
            self.check(backwards(page), True)

    def test_any_value(self):
        for thing in OTHERS + STRANGE:
            self.check(thing, False)
            self.check((thing, {}, {}), thing == ())
            self.check(((), thing, {}), thing == {})
            self.check(((), {}, thing), thing == {})
            if isinstance(thing, (str, int)) or thing is None:
                self.check(((), {thing: (("# a",), ())}, {}), thing == 0 and thing is not False)
            self.check(((), {0: thing}, {}), False)
            self.check(((), {0: ((thing,), ())}, {}), False)
        program = page_of("a;")[0]
        for thing in (
                [program, {}, {}], (program, {}), (program, {}, {}, {}), (program, {}, None), (list(program), {}, {}),
                (program, [], {}), (program, {}, []), (program, (), {}), (program, {}, ()), (program[0], {}, {}),
                ((("name", "a"),), {}, {}), ((("do", ("name", "let")),), {}, {})):
            self.check(thing, False)

    def test_indexes_of_notes(self):
        program = page_of("a + b;")[0]
        note = (("# c",), ())
        for index in range(5):
            self.check((program, {index: note}, {}), True)
        for index in (-1, 5, 6, 10 ** 9, True, False, "0", None, (0,), "a", "", ("#", "c")):
            self.check((program, {index: note}, {}), False)
            self.check((program, {index: note, 2: note}, {}), False)
        self.check(((), {0: note}, {}), True)
        self.check(((), {1: note}, {}), False)
        self.check(((), {False: note}, {}), False)

    def test_notes(self):
        program = page_of("a + b;")[0]
        for note in (
                (("# c",), ()), ((), ("# c",)), (("# c",), ("# d",)), (("# c", "# d", "<**>"), ()), ((), ("<**>", "# d")),
                ((), ("<* a\n*>",)), (("<* a\n*>", "#"), ("<**>", "<**>", "<*\n*>")), (("# c", "# c"), ())):
            self.check((program, {1: note}, {}), True)
            self.check((program, {4: note}, {}), note[1] == ())
        for note in (
                ((), ()), (), ("# c",), (("# c",),), (("# c",), (), ()), [("# c",), ()], (["# c"], ()), (("# c",), []),
                ("# c", ()), (("# c",), "# d"), (("# c",), None), (("# c ",), ()), (("c",), ()), (("<* c",), ()), (("",), ()),
                (("# c\n",), ()), (("# c\n# d",), ()), (("<**><**>",), ()), ((None,), ()), (((),), ()), ((("# c",),), ()),
                ((), ("# c", "# d")), ((), ("# c", "<**>")), ((), ("<*\n*>", "<**>")), ((), ("<*\n*>", "# d")),
                ((), ("<**>", "# c", "<**>")), ((), ("# c ",)), ((), ("a",)), ((), (True,)), None, True, "# c", {}, ("# c", "# d"),
                (("# \u00e9",), ()), (("#\t",), ())):
            self.check((program, {1: note}, {}), False)
            self.check((program, {1: note, 2: (("# c",), ())}, {}), False)

    def test_blanks(self):
        program = page_of("a;\nif b { c; d; } else if e { f; g; } else { h; }\n i;")[0]
        row = row_of(program)
        begins = [row.index(word) for word in ("if", "d", "g", "i")]
        for index in range(-1, len(row) + 2):
            self.check((program, {}, {index: 1}), index in begins)
            self.check((program, {len(row): (("# j",), ())}, {index: 1}), index in begins + [len(row)])
        for index in begins:
            for many in (1, 2, 3, 10 ** 30):
                self.check((program, {}, {index: many}), True)
            for many in (0, -1, True, False, None, "1", (1,), []):
                self.check((program, {}, {index: many}), False)
        for index in (True, False, None, "2", "if", (2,), ()):
            self.check((program, {}, {index: 1}), False)
            self.check((program, {}, {2: 1, index: 1}), False)
        self.check((page_of("a; b;")[0], {4: (("# c",), ())}, {4: 1, 2: 1}), True)
        self.check((page_of("a; b;")[0], {3: (("# c",), ())}, {4: 1}), False)
        self.check(((), {0: (("# c",), ())}, {0: 1}), False)
        self.check((page_of("a; b;")[0], {}, {True: 1}), False)

    def test_a_first_statement_of_one_sign(self):
        # The index 1 is that of a first word here, so True must not be taken for it.
        program = (("do", ("list", ())), ("do", ("name", "a")))
        self.check((program, {}, {3: 1}), True)
        self.check(((("give", None), ("give", None)), {}, {2: 1}), True)
        self.check(((("give", None), ("give", None)), {1: (("#",), ())}, {}), True)
        self.check(((("give", None), ("give", None)), {True: (("#",), ())}, {}), False)

    def test_what_is_a_page_is_that_of_its_text(self):
        for page, _ in any_pages(39, 300):
            source = random.Random(repr(page))
            notes, blanks = dict(page[1]), dict(page[2])
            for _ in range(source.randrange(4)):
                index = source.randrange(-1, len(row_of(page[0])) + 2)
                comments = source.choices(LINES + BLOCKS + TALL, k=source.randrange(4))
                at = source.randrange(len(comments) + 1)
                source.choice((notes, blanks)).pop(index, None)
                if source.random() < 0.7:
                    notes[index] = (tuple(comments[:at]), tuple(comments[at:]))
                else:
                    blanks[index] = source.randrange(-1, 4)
            other = (page[0], notes, blanks)
            try:
                is_that = same_page(page_of(text_of(other)), other)
            except (Faulty, TypeError):
                is_that = False
            self.assertIs(is_page(other), is_that, other)


class OrdersOfKeys(unittest.TestCase):
    def test_same_page(self):
        page = in_order(SHUFFLED)
        self.assertIs(same_page(SHUFFLED, page), True)
        self.assertIs(same_page(page, backwards(page)), True)
        for other in (
                (page[0][:1], {}, {}), (page[0], {}, page[2]), (page[0], page[1], {}), (page[0], page[1], {**page[2], 2: 2}),
                (page[0], {**page[1], 0: (("# a",), ())}, page[2]), (page[0], {**page[1], 1: (("# a",), ())}, page[2])):
            self.assertIs(same_page(page, other), False)
            self.assertIs(same_page(other, page), False)
            self.assertIs(same_page(other, backwards(other)), True)

    def test_in_order(self):
        page = in_order(SHUFFLED)
        self.assertEqual(page, SHUFFLED)
        self.assertEqual(keys(page), [[0, 2, 4], [2, 4]])
        self.assertEqual(keys(SHUFFLED), [[4, 0, 2], [4, 2]])

    def test_many_words(self):
        page = page_of("a;\n\n# b\n" * 15)
        other = in_order(backwards(page))
        self.assertEqual(other, page)
        self.assertEqual(keys(other), keys(page))
        self.assertEqual(keys(page)[0], list(range(2, 31, 2)))

    def test_each_takes_any_order(self):
        for page, _ in any_pages(49, 200):
            other = backwards(page)
            for function in (in_order, bare, text_of, parted, lambda one: clipped(one, 1), lambda one: clipped(one, 9)):
                told = repr(other)
                found = function(other)
                self.assertEqual(repr(found), repr(function(page)))
                self.assertEqual(repr(other), told)

    def test_put_together_takes_any_order(self):
        for page, _ in any_pages(59, 200):
            parts, empty, comments = parted(page)
            parts = tuple((many, backwards(part)) for many, part in parts)
            told = repr(parts)
            self.assertEqual(repr(put_together(parts, empty, comments)), repr(page))
            self.assertEqual(repr(parts), told)

    def test_what_is_told_is_new(self):
        page = in_order(SHUFFLED)
        told = repr(page)
        for function in (in_order, bare, lambda one: clipped(one, 1), lambda one: clipped(one, 9)):
            found = function(page)
            self.assertIsNot(found[1], page[1])
            self.assertIsNot(found[2], page[2])
            self.assertIsNot(found[1], found[2])
            kept = repr(found)
            found[1][99] = found[2][99] = 5
            self.assertEqual(repr(page), told)
            self.assertEqual(repr(function(page)), kept)
        parts, empty, comments = parted(page)
        put = put_together(parts, empty, comments)
        kept = repr(parts)
        put[1].clear()
        put[2].clear()
        self.assertEqual(repr(parts), kept)
        for _, part in parts:
            part[1].clear()
            part[2][99] = 5
        self.assertEqual(repr(page), told)
        self.assertEqual(repr(parted(page)[0]), kept)


class ClippedAndBare(unittest.TestCase):
    def test_clipped(self):
        self.assertEqual(clipped(SHUFFLED, 0), (SHUFFLED[0], SHUFFLED[1], {}))
        self.assertEqual(clipped(SHUFFLED, 1), (SHUFFLED[0], SHUFFLED[1], {2: 1, 4: 1}))
        self.assertEqual(clipped(SHUFFLED, 2), (SHUFFLED[0], SHUFFLED[1], {2: 1, 4: 2}))
        for most in (3, 4, 10 ** 20):
            self.assertEqual(clipped(SHUFFLED, most), SHUFFLED)
        self.assertEqual(keys(clipped(SHUFFLED, 1)), [[0, 2, 4], [2, 4]])

    def test_bare(self):
        self.assertEqual(bare(SHUFFLED), (SHUFFLED[0], {}, {}))
        self.assertEqual(bare(page_of(TEXT)), page_of(" ".join(
            token[1] for token in cut(TEXT)[0] if token[0] not in ("line", "block"))))

    def test_any_pages(self):
        for page, _ in any_pages(69, 200):
            for most in range(4):
                found = clipped(page, most)
                self.assertIs(is_page(found), True)
                self.assertEqual(found[:2], page[:2])
                self.assertEqual(found[2], {index: min(many, most) for index, many in page[2].items() if most})
            self.assertIs(is_page(bare(page)), True)


class TextOf(unittest.TestCase):
    def test_lines(self):
        self.assertEqual(text_of(((), {}, {})), "")
        self.assertEqual(text_of(page_of("a;")), "a\n;")
        self.assertEqual(text_of(page_of("# a")), "# a")
        self.assertEqual(text_of(page_of("# a\n\n<* b\n\n*>")), "# a\n<* b\n\n*>")
        self.assertEqual(text_of(page_of("a; # b")), "a\n; # b")
        self.assertEqual(text_of(page_of("a;<* b *><* c *># d")), "a\n; <* b *> <* c *> # d")
        self.assertEqual(text_of(page_of("a;<* b\n*>c;")), "a\n; <* b\n*>\nc\n;")
        self.assertEqual(text_of(page_of("a;\n\n\n# b\nc\n# d\n;\n\n\n\n# e\n# f")), "a\n;\n\n\n# b\nc\n# d\n;\n\n\n\n# e\n# f")
        self.assertEqual(text_of(page_of("'''a\nb''' # c\n;")), "'''a\nb''' # c\n;")

    def test_grouping_brackets(self):
        self.assertEqual(text_of(page_of("(a);")), "a\n;")
        self.assertEqual(text_of(page_of("a * (# b\nc + d # e\n);")), "a\n* # b\n(\nc\n+\nd # e\n)\n;")
        self.assertEqual(text_of(page_of("a * (\n# b\nc + d # e\n# f\n);")), "a\n*\n(\n# b\nc\n+\nd # e\n)\n# f\n;")
        self.assertEqual(
            text_of(page_of("a;\n\n\n# b\n(((c + d)) * e).f;")), "a\n;\n\n\n(\n(\n# b\nc\n+\nd\n)\n*\ne\n)\n.\nf\n;")
        self.assertEqual(text_of(page_of("(fn() -> a)();")), "(\nfn\n(\n)\n->\na\n)\n(\n)\n;")
        self.assertEqual(text_of(page_of("# a\n(fn() -> b)();")), "(\n# a\nfn\n(\n)\n->\nb\n)\n(\n)\n;")
        self.assertEqual(text_of(page_of("if a { b;\n\n(c or d).e; }")), "if\na\n{\nb\n;\n\n(\nc\nor\nd\n)\n.\ne\n;\n}")

    def test_a_whole_one(self):
        self.assertEqual(text_of(page_of(TEXT)).split("\n"), (
            "# top|let|a|=|1|; # one|||if|a|{ # two|b|;||(|c|+|d|)|*|e|; <* three *>|# four|}|else|if|f|{|g|;|||# five|h|.|i|;|}"
            "|else|{|j|;|}|<* six *>|def|k|(|x|)|{|while|l|{|for|m|in|n|{|set|o|=|p|;|}|give|;|}||give|q|;|}|||# seven"
            "|<* eight *>").split("|"))

    def test_the_page_comes_back(self):
        for page, _ in any_pages(79, 800):
            text = text_of(page)
            self.assertEqual(page_of(text), page, text)
            self.assertFalse(text.endswith("\n"))
            self.assertEqual(text_of(page_of(text)), text)

    def test_in_any_spacing(self):
        for page, _ in any_pages(89, 300):
            text = text_of(page)
            # Blanks are put ahead of words and behind line ends; nothing is put into words.
            source = random.Random(text)
            ends = [0] + [begin + len(word) for _, word, begin in cut(text)[0]]
            spaced = ""
            for end, (_, word, begin) in zip(ends, cut(text)[0]):
                between = text[end:begin].replace(" ", " " * source.randrange(1, 4))
                spaced += "".join(sign + " " * source.randrange(3) if sign == "\n" else sign for sign in between) + word
            self.assertEqual(page_of(spaced), page, spaced)


class Parts(unittest.TestCase):
    def test_none(self):
        self.assertEqual(parted(((), {}, {})), ((), 0, ()))
        self.assertEqual(put_together((), 0, ()), ((), {}, {}))
        self.assertEqual(parted(page_of("# a\n\n# b")), ((), 0, ("# a", "# b")))
        self.assertEqual(put_together((), 0, ("# a", "# b")), page_of("# a\n\n# b"))

    def test_a_whole_one(self):
        parts, empty, comments = parted(page_of(TEXT))
        self.assertEqual((empty, comments), (2, ("# seven", "<* eight *>")))
        self.assertEqual([many for many, _ in parts], [0, 2, 0])
        first, behind = TEXT.split("if a", 1)
        second, behind = behind.split("<* six *>")
        third = behind.split("# seven")[0]
        self.assertEqual([part for _, part in parts], [page_of(first), page_of("if a" + second), page_of("<* six *>" + third)])

    def test_what_they_tell(self):
        page = page_of("a;\n# b\n\n\nif c {\n\nd;\n\n\n# e\nf; # g\n}\n\n\n\nh; # i\n\n\n\n\n# j")
        self.assertEqual(parted(page), (
            ((0, page_of("a;")), (0, page_of("# b\nif c {\nd;\n\n\n# e\nf; # g\n}")), (3, page_of("h; # i"))), 4, ("# j",)))
        self.assertEqual(parted(page)[0][1][1][1:], ({0: (("# b",), ()), 5: (("# e",), ()), 6: ((), ("# g",))}, {5: 2}))

    def test_there_and_back(self):
        for page, text in any_pages(99, 600):
            parts, empty, comments = parted(page)
            self.assertIs(type(parts), tuple)
            self.assertEqual(len(parts), len(page[0]))
            found = put_together(parts, empty, comments)
            self.assertEqual(found, page, text)
            self.assertEqual(keys(found), keys(page))
            self.assertEqual(put_together(list(parts), empty, comments), page)
            for statement, (many, part) in zip(page[0], parts):
                self.assertEqual(part[0], (statement,))
                self.assertIs(is_page(part), True)
                self.assertEqual(keys(part), keys(in_order(part)))
                self.assertGreaterEqual(many, 0)
            self.assertEqual(parted(found), (parts, empty, comments))

    def test_in_another_order(self):
        for page, _ in any_pages(109, 400):
            parts, empty, comments = parted(page)
            source = random.Random(repr(page))
            pages = [part for _, part in parts]
            source.shuffle(pages)
            others = tuple((source.randrange(4) if at else 0, part) for at, part in enumerate(pages))
            found = put_together(others, empty, comments)
            self.assertIs(is_page(found), True)
            self.assertEqual(parted(found), (others, empty, comments))
            self.assertEqual(page_of(text_of(found)), found)

    def test_texts_behind_one_another(self):
        before = None
        for page, text in any_pages(129, 400):
            parts, _, comments = parted(page)
            if before is not None and parts:
                others, _, earlier = parted(page_of(before))
                if others and not earlier:
                    # A text that begins with a line feed or more: these are empty lines ahead of what stands there.
                    for feeds in (1, 2, 4):
                        found = page_of(before.rstrip(" \n") + "\n" * feeds + text.lstrip(" \n"))
                        wanted = others + ((feeds - 1, parts[0][1]),) + parts[1:]
                        self.assertEqual(found, put_together(wanted, parted(page)[1], comments))
            before = text

    def test_each_statement_is_laid_out_by_itself(self):
        for page, _ in any_pages(139, 200):
            parts, empty, comments = parted(page)
            texts = ["\n" * many + text_of(part) for many, part in parts]
            if comments:
                texts.append("\n" * empty + "\n".join(comments))
            self.assertEqual("\n".join(texts), text_of(page))


class Bounds(unittest.TestCase):
    def check(self, text, notes, blanks):
        page = page_of(text)
        self.assertEqual((len(page[1]), len(page[2])), (notes, blanks))
        self.assertIs(is_page(page), True)
        self.assertEqual(page_of(text_of(page)), page)
        self.assertEqual(put_together(*parted(page)), page)

    def test_long_ones(self):
        self.check("a;#\n" * 1000, 1000, 0)
        self.check("a;\n\n" * 1000, 0, 999)
        self.check("#\n" * 2000, 1, 0)
        self.check("a;" + "\n" * 3996 + "b;", 0, 1)
        self.check("a#\n+#\n" * 600 + "b;", 1200, 0)

    def test_deep_ones(self):
        self.check("if a {\n\n" * 20 + "b;\n\nc; # d\n" + "}" * 20, 1, 1)
        self.check("a;\n\n" + "( # b\n" * 20 + "c" + ")" * 20 + "; # d", 2, 1)
        self.check("if a { } else " * 200 + "{ b;\n\n# c\nd; }", 1, 1)

    def test_else_ifs(self):
        page = page_of("if a { } else if b { } else if c { }\n\nd;")
        begins = [span[0] for span in statement_spans(page[0])]
        self.assertEqual(len(begins), 4)
        for index in begins:
            self.assertIs(is_page((page[0], {}, {index: 1})), index == begins[3])


if __name__ == "__main__":
    unittest.main()
