"""Point 26: styles."""

import itertools
import unittest

from leastlaid.styles import fitting, is_style, named, needed_width, plain_style, style_of, style_with
from tests.documents import RANKS
from tests.values import OTHERS, STRANGE

NAMES = ("width", "step", "blanks", "rank", "operators", "lists")
STYLE = (40, 2, 0, ("lines", "broken", "over"), "ahead", "fill")
# Values that can stand at each name, and values that can't.
RIGHT = {
    "width": (8, 9, 40, 80, 119, 120),
    "step": tuple(range(9)),
    "blanks": (0, 1, 2, 3),
    "rank": RANKS,
    "operators": ("ahead", "behind"),
    "lists": ("fill", "rows"),
}
WRONG = {
    "width": (7, 121, 0, -8, 1, 10 ** 30, "40", (40,), [40]),
    "step": (-1, 9, 10 ** 30, "2", (2,), [2]),
    "blanks": (-1, 4, 10 ** 30, "1", (1,)),
    "rank": (
        (), ("over",), ("over", "lines"), ("over", "lines", "lines"), ["over", "lines", "broken"], "over", "over lines broken",
        ("over", "lines", "broken", "over"), ("over", "lines", "Broken"), (0, 1, 2)),
    "operators": ("", "Ahead", "behind ", "fill", "rows", ("ahead",), ["ahead"], 0, 1),
    "lists": ("", "Fill", "row", "ahead", "behind", ("fill",), ["rows"], 0, 1),
}


def put(style, name, value):
    at = NAMES.index(name)
    return style[:at] + (value,) + style[at + 1:]


class IsStyle(unittest.TestCase):
    def check(self, thing, expected):
        self.assertIs(is_style(thing), expected, thing)

    def test_plain_one(self):
        self.assertEqual(repr(plain_style()), "(80, 4, 1, ('over', 'lines', 'broken'), 'behind', 'rows')")
        self.check(plain_style(), True)

    def test_each_at_its_bounds(self):
        for style in (plain_style(), STYLE):
            self.check(style, True)
            for name in NAMES:
                for value in RIGHT[name]:
                    self.check(put(style, name, value), True)
                for value in WRONG[name] + (None, True, False, {}, []):
                    self.check(put(style, name, value), False)
                for other in NAMES:
                    for value in RIGHT[other]:
                        self.check(put(style, name, value), value in RIGHT[name])

    def test_all_widths_and_steps(self):
        for value in range(-5, 130):
            self.check(put(STYLE, "width", value), 8 <= value <= 120)
            self.check(put(STYLE, "step", value), 0 <= value <= 8)
            self.check(put(STYLE, "blanks", value), 0 <= value <= 3)

    def test_all_of_the_words(self):
        for values in itertools.product((8, 120), (0, 8), (0, 3), RANKS, ("ahead", "behind"), ("fill", "rows")):
            self.check(values, True)

    def test_less_and_more(self):
        for size in range(6):
            self.check(STYLE[:size], False)
        for thing in (STYLE + ("fill",), STYLE + (None,), list(STYLE), (STYLE,), dict(enumerate(STYLE)), STYLE[::-1], STYLE * 2, ()):
            self.check(thing, False)

    def test_any_value(self):
        for thing in OTHERS + STRANGE:
            self.check(thing, False)
            self.check((thing,) * 6, False)
            for name in NAMES:
                self.check(put(STYLE, name, thing), thing in RIGHT[name] and not isinstance(thing, bool))


class StyleWith(unittest.TestCase):
    def test_each(self):
        for style in (plain_style(), STYLE):
            for name in NAMES:
                for value in RIGHT[name]:
                    self.assertEqual(style_with(style, name, value), put(style, name, value))
                    self.assertIs(is_style(style_with(style, name, value)), True)
                for value in WRONG[name] + (None, True, False, {}, []):
                    self.assertIsNone(style_with(style, name, value), (name, value))

    def test_any_value(self):
        for thing in OTHERS + STRANGE:
            for name in NAMES:
                found = style_with(STYLE, name, thing)
                self.assertEqual(found, put(STYLE, name, thing) if is_style(put(STYLE, name, thing)) else None)


class Named(unittest.TestCase):
    def test_there_and_back(self):
        self.assertEqual(list(named(STYLE).items()), [
            ("blanks", 0), ("lists", "fill"), ("operators", "ahead"), ("rank", ("lines", "broken", "over")), ("step", 2), ("width", 40)])
        for style in (STYLE, plain_style()):
            told = named(style)
            for keys in itertools.permutations(told):
                self.assertEqual(style_of({key: told[key] for key in keys}), style)
            self.assertEqual(told, named(style))

    def test_the_dict_is_the_callers(self):
        named(STYLE).clear()
        self.assertEqual(len(named(STYLE)), 6)
        told = named(STYLE)
        style_of(told)
        self.assertEqual(told, dict(zip(NAMES, STYLE)))


class Fitting(unittest.TestCase):
    def test_each_width(self):
        for width in range(131):
            for text in ("a" * width, "a" * width + "\n", "\n\n" + " " * width + "\n" + "b" * (width // 2), "\n".join("c" * size for size in range(width + 1))):
                self.assertEqual(needed_width(text), width)
                for style in (STYLE, plain_style()):
                    self.assertEqual(fitting(style, text), (min(max(width, 8), 120),) + style[1:])

    def test_no_lines(self):
        self.assertEqual(repr(needed_width("")), "0")
        self.assertEqual(needed_width("\n\n\n"), 0)
        self.assertEqual(needed_width("ab\ncde\nf"), 3)
        self.assertEqual(fitting(STYLE, "")[0], 8)


if __name__ == "__main__":
    unittest.main()
