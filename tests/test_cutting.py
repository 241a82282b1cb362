"""Point 13: lines, places, cutting."""

import itertools
import random
import unittest

from leastlaid.cutting import cut, glued, index_of, lines_of, place_of
from tests import plain
from tests.test_words import KEYWORDS, SIGNS, WORDS

TEXTS = (
    "", " ", "\n", "\n\n", "a", "a\n", "\na", "\n\na b\n\n", "let a = 1;\n  set a = 2; # b  \n", "'''a\nb'''\n<* c\n\n*>",
    '"a\nb"', "!\n!\n!", "    ", " \n \n ",
)
SAMPLES = (
    "a", "let", "1", "1.5", '"q"', '"\\""', "'''r'''", "'''r\ns'''", "=", "==", "->", "[", "# c", "# c  ", "<* d *>",
    "<* d\ne *>",
)


def cut_words(text):
    return [token[1] for token in cut(text)[0]]


class Lines(unittest.TestCase):
    def test_lines_of(self):
        self.assertEqual(lines_of(""), [""])
        self.assertEqual(lines_of("\n"), ["", ""])
        self.assertEqual(lines_of("a"), ["a"])
        self.assertEqual(lines_of("\n\na b\n"), ["", "", "a b", ""])
        self.assertEqual(lines_of("\n" * 4000), [""] * 4001)
        self.assertIs(type(lines_of("a\nb")), list)

    def test_lines_are_the_callers(self):
        lines = lines_of("a\nb")
        lines.append("c")
        lines[0] = ""
        self.assertEqual(lines_of("a\nb"), ["a", "b"])

    def test_places_there_and_back(self):
        for text in TEXTS + ("ab\n" * 50, "a" * 200):
            for index in range(len(text) + 1):
                place = place_of(text, index)
                self.assertIs(type(place), tuple)
                self.assertEqual(place, plain.place(text, index))
                self.assertEqual(index_of(text, place), index)

    def test_places(self):
        text = "ab\n\nc"
        self.assertEqual([place_of(text, at) for at in range(6)], [(0, 0), (0, 1), (0, 2), (1, 0), (2, 0), (2, 1)])
        self.assertEqual([index_of(text, place) for place in ((0, 0), (0, 2), (1, 0), (2, 0), (2, 1))], [0, 2, 3, 4, 5])
        self.assertEqual((place_of("", 0), index_of("", (0, 0))), ((0, 0), 0))
        self.assertEqual((place_of("\n", 1), index_of("\n", (1, 0))), ((1, 0), 1))

    def test_places_of_long_texts(self):
        self.assertEqual(place_of("\n" * 4000, 4000), (4000, 0))
        self.assertEqual(place_of("a" * 4000, 4000), (0, 4000))
        self.assertEqual(index_of("ab\n" * 1333, (1333, 0)), 3999)


class Cutting(unittest.TestCase):
    def test_nothing(self):
        for text in ("", " ", "\n", "   \n \n\n  "):
            self.assertEqual(cut(text), ((), ()))

    def test_each_kind_everywhere(self):
        for kind, words in WORDS.items():
            for word in words:
                behind = "\n" if kind == "line" else " "
                if kind == "line":
                    self.assertEqual(cut(word + "\nx")[0], (("line", word, 0), ("name", "x", len(word) + 1)))
                    continue
                self.assertEqual(cut(word), (((kind, word, 0),), ()))
                self.assertEqual(cut(" \n" + word + behind), (((kind, word, 2),), ()))
                text = "x\n" + word + behind + "x"
                expected = (("name", "x", 0), (kind, word, 2), ("name", "x", len(text) - 1))
                self.assertEqual(cut(text), (expected, ()))

    def test_tuples(self):
        tokens, faults = cut("a !")
        self.assertEqual((type(cut("a !")), type(tokens), type(faults)), (tuple, tuple, tuple))
        self.assertEqual((tokens, faults), ((("name", "a", 0),), (((0, 2), "sign"),)))

    def test_words_side_by_side(self):
        self.assertEqual(cut_words("1a"), ["1", "a"])
        self.assertEqual(cut_words("1.5.6"), ["1.5", ".", "6"])
        self.assertEqual(cut_words("1.a"), ["1", ".", "a"])
        self.assertEqual(cut_words("a.5"), ["a", ".", "5"])
        self.assertEqual(cut_words("a<=b"), ["a", "<=", "b"])
        self.assertEqual(cut_words("a<-b->=c"), ["a", "<", "-", "b", "->", "=", "c"])
        self.assertEqual(cut_words("===!=="), ["==", "=", "!=", "="])
        self.assertEqual(cut_words('a"b"c'), ["a", '"b"', "c"])
        self.assertEqual(cut_words("a'''b'''c"), ["a", "'''b'''", "c"])
        self.assertEqual(cut_words("lets let1 let"), ["lets", "let1", "let"])
        self.assertEqual([token[0] for token in cut("lets let1 let")[0]], ["name", "name", "keyword"])
        self.assertEqual(cut_words("*>"), ["*", ">"])
        self.assertEqual(cut_words("< *"), ["<", "*"])

    def test_comments(self):
        tokens = (("name", "a", 0), ("line", "# b  ", 2), ("line", "#", 8), ("name", "c", 10))
        self.assertEqual(cut("a # b  \n#\nc"), (tokens, ()))
        self.assertEqual(cut("#  "), ((("line", "#  ", 0),), ()))
        self.assertEqual(cut('# " \'\'\' <* !\na')[1], ())
        self.assertEqual(cut("<* # *> a"), ((("block", "<* # *>", 0), ("name", "a", 8)), ()))
        self.assertEqual(cut_words("<*\n\n*>*>"), ["<*\n\n*>", "*", ">"])
        self.assertEqual(cut_words("<**>*"), ["<**>", "*"])
        self.assertEqual(cut_words('"<*" "#"'), ['"<*"', '"#"'])

    def test_sign_faults(self):
        for sign in "!$%&'?@\\`|~":
            self.assertEqual(cut(sign), ((), (((0, 0), "sign"),)))
            self.assertEqual(cut(sign + "a"), ((("name", "a", 1),), (((0, 0), "sign"),)))
            self.assertEqual(cut("a\n " + sign + "b"), ((("name", "a", 0), ("name", "b", 4)), (((1, 1), "sign"),)))
            self.assertEqual(cut("a" + sign), ((("name", "a", 0),), (((0, 1), "sign"),)))
        self.assertEqual(cut("''a"), ((("name", "a", 2),), (((0, 0), "sign"), ((0, 1), "sign"))))
        self.assertEqual(cut("! ="), ((("sign", "=", 2),), (((0, 0), "sign"),)))

    def test_quote_faults(self):
        for quote in ('"', '"a', '"\\', '"\\"', '"a\\b"', '"a\\b" c', '" # b', '"<* *> !', "\"'''"):
            self.assertEqual(cut(quote), ((), (((0, 0), "quote"),)), quote)
            self.assertEqual(cut("a\n " + quote + "\nb"), (
                (("name", "a", 0), ("name", "b", len(quote) + 4)), (((1, 1), "quote"),)))
        self.assertEqual(cut('"a"b"c'), ((("quote", '"a"', 0), ("name", "b", 3)), (((0, 4), "quote"),)))
        self.assertEqual(cut('"a\n"b\n'), ((), (((0, 0), "quote"), ((1, 0), "quote"))))
        self.assertEqual(cut('"a\n"'), ((), (((0, 0), "quote"), ((1, 0), "quote"))))

    def test_raw_faults(self):
        for raw in ("'''", "''''", "'''''", "'''a", "'''a\nb''\n", "''' \" ! <* *>\n# a"):
            self.assertEqual(cut(raw), ((), (((0, 0), "raw"),)), raw)
            self.assertEqual(cut("a\nb" + raw), ((("name", "a", 0), ("name", "b", 2)), (((1, 1), "raw"),)))
        self.assertEqual(cut("'''a''''''b"), ((("raw", "'''a'''", 0),), (((0, 7), "raw"),)))
        self.assertEqual(cut("'''a''''"), ((("raw", "'''a'''", 0),), (((0, 7), "sign"),)))

    def test_block_faults(self):
        for block in ("<*", "<*>", "<* a\n* >", "<* \" ! '''\n# a"):
            self.assertEqual(cut(block), ((), (((0, 0), "block"),)), block)
            self.assertEqual(cut("a\nb" + block), ((("name", "a", 0), ("name", "b", 2)), (((1, 1), "block"),)))
        self.assertEqual(cut("<**><*"), ((("block", "<**>", 0),), (((0, 4), "block"),)))

    def test_faults_together(self):
        text = "! \"a\n'x ? \"\nb <* '''\n!"
        tokens = (("name", "x", 6), ("name", "b", 12))
        faults = (((0, 0), "sign"), ((0, 2), "quote"), ((1, 0), "sign"), ((1, 3), "sign"), ((1, 5), "quote"),
                  ((2, 2), "block"))
        self.assertEqual(cut(text), (tokens, faults))
        self.assertEqual(cut("'''<*"), ((), (((0, 0), "raw"),)))
        self.assertEqual(cut("<*'''"), ((), (((0, 0), "block"),)))
        self.assertEqual(cut('"<*\n\'\'\''), ((), (((0, 0), "quote"), ((1, 0), "raw"))))
        self.assertEqual(cut("# <*\n<*"), ((("line", "# <*", 0),), (((1, 0), "block"),)))

    def test_short_texts(self):
        for alphabet, size in (("'a\n ", 7), ('"\\n\na ', 5), ("<*>=#\n", 5), ("1.a!", 6), ("->=<!", 5)):
            for signs in itertools.product(alphabet, repeat=size):
                text = "".join(signs)
                self.assertEqual(cut(text), plain.cut(text), text)

    def test_any_texts(self):
        source = random.Random(13)
        pieces = SAMPLES + tuple(SIGNS) + (" ", "\n", "!", '"', "'''", "<*", "*>", "\\")
        for _ in range(3000):
            text = "".join(source.choice(pieces) for _ in range(source.randrange(20)))
            self.assertEqual(cut(text), plain.cut(text), text)

    def test_long_texts(self):
        self.assertEqual(len(cut("a " * 2000)[0]), 2000)
        self.assertEqual(len(cut("(" * 4000)[0]), 4000)
        self.assertEqual(len(cut("!" * 4000)[1]), 4000)
        self.assertEqual(len(cut('"\n' * 2000)[1]), 2000)
        self.assertEqual(cut("<*" + "\n" * 3996 + "*>"), ((("block", "<*" + "\n" * 3996 + "*>", 0),), ()))
        self.assertEqual(cut("a" * 4000), ((("name", "a" * 4000, 0),), ()))


class Glued(unittest.TestCase):
    def test_by_cutting(self):
        words = SAMPLES[:10] + ("b1", "_", "0.5", '""', "''''''", "not") + tuple(SIGNS) + tuple(KEYWORDS)
        for one, other in itertools.product(words, repeat=2):
            tokens, faults = plain.cut(one + other)
            apart = faults == () and [token[1] for token in tokens] == [one, other]
            self.assertIs(glued(one, other), not apart, (one, other))

    def test_told(self):
        for one, other in (
                ("a", "b"), ("a", "1"), ("let", "a"), ("a", "let"), ("1", "2"), ("1.5", "2"), ("1", "2.5"), ("<", "="),
                ("=", "="), ("=", "=="), ("-", ">"), ("-", ">="), ("<", "*"), (">", "=="), ("a", "1.5")):
            self.assertIs(glued(one, other), True, (one, other))
        for one, other in (
                ("1", "a"), ("1", "."), (".", "5"), ("1.5", "."), ("a", "("), ("==", "="), ("*", ">"), ('""', '""'),
                ("''''''", "''''''"), ("a", '"b"'), ("-", "-"), ("<", "-"), ("/", "/"), ("->", "="), ("a", "'''b'''")):
            self.assertIs(glued(one, other), False, (one, other))


if __name__ == "__main__":
    unittest.main()
