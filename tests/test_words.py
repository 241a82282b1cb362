"""Point 12: words and their kinds."""

import itertools
import unittest

from leastlaid.words import is_comment, is_integer, is_name, is_text, kind_of
from tests import plain
from tests.values import OTHERS, STRANGE

SIGNS = "( ) [ ] { } , ; : . = == != < <= > >= + - * / ^ ->".split()
KEYWORDS = "let set give if else while for in def fn and or not true false none".split()
WORDS = {
    "name": ("a", "Z", "_", "__", "a1", "_1", "A_b9", "lets", "Let", "le", "fns", "not_", "nOne", "x" * 4000),
    "keyword": tuple(KEYWORDS),
    "number": ("0", "7", "007", "12345678901234567890", "1.5", "0.0", "00.00", "9" * 1999 + "." + "9" * 2000),
    "quote": (
        '""', '"a"', '" "', '"\\""', '"\\\\"', '"\\n"', '"\\t"', '"\\\\\\""', '"# a"', '"<* *>"', "\"'''\"",
        '"' + "\\n" * 1999 + '"',
    ),
    "raw": (
        "''''''", "'''a'''", "''' '''", "'''\n'''", "''''a'''", "'''a''b'''", "'''\"'''", "'''\\'''", "'''#'''",
        "'''" + "\n" * 3994 + "'''",
    ),
    "sign": tuple(SIGNS),
    "line": ("#", "# ", "##", "#a", "# a  ", "# <* *>", "#'''", '#"', "#" * 4000),
    "block": ("<**>", "<* *>", "<***>", "<*\n*>", "<*<*>", "<* # *>", "<*a\nb\n*>", "<*" + " " * 3996 + "*>"),
}
NEARLY = {
    "name": ("1a", "a b", "a-b", "a.b", " a", "a ", "a\n", "\na", "a!", "a$"),
    "keyword": ("let ", " let", "let\n", "let a", "letlet;"),
    "number": ("1.", ".5", "1.2.3", "1 2", "1..2", "1.a", "1a", "-1", "+1", "1 ", "1_000", "1e5", "1."),
    "quote": (
        '"', '"a', 'a"', '"""', '"a""', '"\\"', '"\\a"', '"\\\\\\"', '"\n"', '"a" ', '"a" "b"', "'a'", '"\\ "', '"\\',
        '"a\\', '"\\\n"', '"\\r"', '"\\\'"',
    ),
    "raw": ("'''", "''''", "'''''", "'''a''", "'''''''", "'''a''''", "''a''", "'''a''' ", "'''a'''b'''", "'' ''''"),
    "sign": ("!", "=!", "=>", "=<", "===", "<>", "->>", "- >", "()", "&", "|", "?", "@", "$", "~", "`", "\\", "'", "''"),
    "line": (" #", "#\n", "# a\n", "# a\n# b", "a # b", "//"),
    "block": ("<*", "<*>", "<* *", "<* * >", "<* *> ", "<* *>*>", "< **>", "*>", "<* *><* *>", " <**>", "<* *>\n"),
}


class Words(unittest.TestCase):
    def test_each_kind(self):
        for kind, words in WORDS.items():
            for word in words:
                self.assertEqual(kind_of(word), kind, word)

    def test_nearly_a_word(self):
        for kind, words in NEARLY.items():
            for word in words:
                self.assertIsNone(kind_of(word), word)
                self.assertIs(is_name(word), False)
                self.assertIs(is_comment(word), False)

    def test_no_word(self):
        for string in ("", " ", "\n", "   ", " \n ") + STRANGE:
            self.assertIsNone(kind_of(string), string)
            self.assertIs(is_name(string), False)
            self.assertIs(is_comment(string), False)

    def test_keywords_are_no_names(self):
        for word in KEYWORDS:
            self.assertEqual(kind_of(word), "keyword")
            self.assertIs(is_name(word), False)
            for near in (word + "_", "_" + word, word + "1", word.upper(), word[:-1] + word[-1].upper()):
                self.assertEqual(kind_of(near), "name")
                self.assertIs(is_name(near), True)

    def test_signs(self):
        singles = [sign for sign in map(chr, range(32, 127)) if kind_of(sign) == "sign"]
        self.assertEqual(singles, sorted(sign for sign in SIGNS if len(sign) == 1))
        pairs = ["".join(pair) for pair in itertools.product(map(chr, range(32, 127)), repeat=2)]
        self.assertEqual([pair for pair in pairs if kind_of(pair) == "sign"], sorted(s for s in SIGNS if len(s) == 2))

    def test_every_sign_amid_a_word(self):
        for sign in map(chr, range(32, 127)):
            for form in (sign, "a" + sign, "1" + sign, '"' + sign + '"', "#" + sign, "<*" + sign, "1." + sign):
                self.assertEqual(kind_of(form), plain.kind_of(form), form)

    def test_short_strings(self):
        for alphabet, size in (("'a \n", 8), ('"\\nt\n a', 5), ("<*>= #", 6), ("1.a_ ", 6), ("-><=!", 5)):
            for signs in itertools.chain(*(itertools.product(alphabet, repeat=many) for many in range(size + 1))):
                string = "".join(signs)
                self.assertEqual(kind_of(string), plain.kind_of(string), string)

    def test_other_values(self):
        for thing in OTHERS:
            self.assertIsNone(kind_of(thing))
            for function in (is_text, is_name, is_comment):
                self.assertIs(function(thing), False)

    def test_is_integer(self):
        for thing in (0, 1, -1, 10 ** 39, -(10 ** 39)):
            self.assertIs(is_integer(thing), True)
        for thing in ("", "1", True, False, None, (), (1,), [1], {1: 1}, 1.0) + WORDS["number"]:
            self.assertIs(is_integer(thing), False)
        for thing in OTHERS:
            self.assertIs(is_integer(thing), type(thing) is int)

    def test_is_text(self):
        for string in ("", " ", "\n", "~", "a\nb", "".join(map(chr, range(32, 127))), "a" * 4000, "\n" * 4000):
            self.assertIs(is_text(string), True)
        for string in STRANGE + ("a" * 3999 + "\t", "\x1f", "\x0b", "\u2028", "\x85"):
            self.assertIs(is_text(string), False)
        self.assertEqual([code for code in range(300) if is_text(chr(code))], [10] + list(range(32, 127)))

    def test_is_name(self):
        for kind, words in WORDS.items():
            for word in words:
                self.assertIs(is_name(word), kind == "name")

    def test_is_comment(self):
        for kind, words in WORDS.items():
            for word in words:
                expected = kind == "block" or kind == "line" and not word.endswith(" ")
                self.assertIs(is_comment(word), expected, word)
        for comment, expected in (("#", True), ("# ", False), ("# a", True), ("# a ", False), ("<* *>", True)):
            self.assertIs(is_comment(comment), expected)


if __name__ == "__main__":
    unittest.main()
