"""Point 33: changes of texts."""

import itertools
import unittest

from leastlaid.changes import back_of, change_between, changed, changed_by, is_change
from leastlaid.errors import NoChange
from tests.values import OTHERS, STRANGE


def all_texts(most):
    for size in range(most + 1):
        yield from ("".join(signs) for signs in itertools.product("a\n", repeat=size))


class Changed(unittest.TestCase):
    def test_some(self):
        for change, expected in (
                ((0, 0, ""), "abcd"), ((0, 0, "x"), "xabcd"), ((4, 4, "x"), "abcdx"), ((1, 3, ""), "ad"), ((0, 4, "\n"), "\n"),
                ((1, 2, "xyz"), "axyzcd")):
            self.assertEqual(changed("abcd", change), expected)
        self.assertEqual(changed("", (0, 0, "a")), "a")

    def test_beyond_the_text(self):
        for change in ((0, 5, ""), (5, 5, "x"), (2, 9, ""), (10 ** 9, 10 ** 9, "")):
            with self.assertRaises(NoChange) as caught:
                changed("abcd", change)
            self.assertIs(caught.exception.change, change)

    def test_one_behind_the_other(self):
        for kind in (list, tuple):
            self.assertEqual(changed_by("ab", kind([(0, 1, ""), (1, 1, "cc")])), "bcc")
            self.assertEqual(changed_by("ab", kind([])), "ab")
            self.assertEqual(changed_by("ab", kind([(2, 2, "cd"), (4, 4, "e"), (0, 5, "f")])), "f")
            changes = kind([(0, 2, ""), (0, 0, "x"), (1, 2, ""), (9, 9, "")])
            with self.assertRaises(NoChange) as caught:
                changed_by("ab", changes)
            self.assertIs(caught.exception.change, changes[2])
        changes = [(0, 1, ""), (0, 1, "")]
        changed_by("ab", changes)
        self.assertEqual(changes, [(0, 1, ""), (0, 1, "")])


class ChangeBetween(unittest.TestCase):
    def test_some(self):
        for one, other, expected in (
                ("one two", "one three two", (5, 5, "hree t")), ("same", "same", (4, 4, "")), ("aa", "a", (1, 2, "")),
                ("a", "aa", (1, 1, "a")), ("aba", "ababa", (3, 3, "ba")), ("ababa", "aba", (3, 5, "")), ("", "", (0, 0, "")),
                ("", "ab", (0, 0, "ab")), ("ab", "", (0, 2, "")), ("abc", "xyz", (0, 3, "xyz")), ("abc", "xbc", (0, 1, "x")),
                ("abc", "axc", (1, 2, "x")), ("a\nb", "a\n\nb", (2, 2, "\n")), ("abcabc", "abc", (3, 6, ""))):
            self.assertEqual(change_between(one, other), expected)

    def test_of_all_short_texts(self):
        texts = list(all_texts(4))
        for one in texts:
            for other in texts:
                found = change_between(one, other)
                self.assertEqual(changed(one, found), other)
                can_be = [
                    (begin, -end) for begin in range(len(one) + 1) for end in range(begin, len(one) + 1)
                    if other.startswith(one[:begin]) and other.endswith(one[end:])
                    and begin + len(one) - end <= len(other)]
                self.assertEqual((found[0], -found[1]), max(can_be))


class BackOf(unittest.TestCase):
    def test_all_changes_of_a_text(self):
        text = "ab\ncd"
        for begin in range(6):
            for end in range(begin, 6):
                for string in ("", "x", "ab\n", "\n\n"):
                    change = (begin, end, string)
                    back = back_of(text, change)
                    self.assertEqual(back, (begin, begin + len(string), text[begin:end]))
                    self.assertEqual(changed(changed(text, change), back), text)
                    self.assertEqual(back_of(changed(text, change), back), change)


class IsChange(unittest.TestCase):
    def test_any_value(self):
        for thing in ((0, 0, ""), (0, 9, "a\n~ "), (5, 5, "x"), (10 ** 39, 10 ** 39, "")):
            self.assertIs(is_change(thing), True)
        for thing in OTHERS + STRANGE + (
                (0, 0), (0, 0, "", ""), [0, 0, ""], (-1, 0, ""), (1, 0, ""), (0, True, ""), (False, 0, ""), (0, 0, None),
                (0, 0, "\t"), (0, 0, 0), ("0", "0", ""), (0, None, ""), (0, 0, ("",)), ((0, 0), 0, "")):
            self.assertIs(is_change(thing), False)


if __name__ == "__main__":
    unittest.main()
