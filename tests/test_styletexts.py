"""Point 27: texts of styles."""

import itertools
import random
import unittest

from leastlaid.errors import NoStyle, Wrong
from leastlaid.styles import is_style, named, plain_style
from leastlaid.styletexts import (
    is_layer, laid, layer_between, layers_for, over, read_layer, same_style_paths, show_layer, style_for)
from tests.test_styles import NAMES, RIGHT, STYLE, WRONG
from tests.values import OTHERS, STRANGE

LAYERS = {
    "": {"width": 100}, "lib": {"step": 2, "blanks": 0}, "lib/old": {"width": 30, "step": 8}, "library": {"lists": "fill"},
    "lib/old/er": {"operators": "ahead"}, "a": {}, "lib/older": {"blanks": 3}, "old": {"blanks": 2},
}


def any_layer(source):
    names = source.sample(NAMES, source.randrange(7))
    return {name: source.choice(RIGHT[name]) for name in names}


def many_layers(seed, many):
    source = random.Random(seed)
    return [{}] + [any_layer(source) for _ in range(many)]


def backwards(table):
    return {key: table[key] for key in sorted(table, reverse=True)}


class IsLayer(unittest.TestCase):
    def check(self, thing, expected):
        self.assertIs(is_layer(thing), expected, thing)

    def test_each(self):
        for name in NAMES:
            for value in RIGHT[name]:
                self.check({name: value}, True)
                self.check({**named(STYLE), name: value}, True)
            for value in WRONG[name] + (None, True, False, {}, []):
                self.check({name: value}, False)
                self.check({**named(STYLE), name: value}, False)
                self.check({**backwards(named(STYLE)), name: value}, False)
        self.check({}, True)
        for layer in many_layers(27, 300):
            self.check(layer, True)
            self.check(backwards(layer), True)
        self.check(named(STYLE), True)

    def test_names(self):
        for name in ("Width", "", "width ", "style", None, 0, True, (), ("width",), ("rank", "over")):
            for value in (8, "fill", RIGHT["rank"][0]):
                self.check({name: value}, False)
                self.check({"step": 2, name: value}, False)

    def test_any_value(self):
        for thing in OTHERS + STRANGE:
            self.check(thing, thing == {})
            self.check({"width": thing}, False)
            if isinstance(thing, (str, int)) or thing is None:
                self.check({thing: 8}, False)
        for thing in (STYLE, list(STYLE), [("width", 8)], (("width", 8),), "width = 8", "width", ["width"]):
            self.check(thing, False)


class Over(unittest.TestCase):
    def test_laid(self):
        self.assertEqual(laid(STYLE, {}), STYLE)
        for name in NAMES:
            for value in RIGHT[name]:
                self.assertEqual(named(laid(STYLE, {name: value})), {**named(STYLE), name: value})
        self.assertEqual(laid(STYLE, named(plain_style())), plain_style())
        for layer in many_layers(127, 200):
            self.assertEqual(named(laid(STYLE, layer)), {**named(STYLE), **layer})
            self.assertIs(is_style(laid(STYLE, layer)), True)

    def test_over(self):
        many = many_layers(227, 40)
        for below in many:
            for above in many:
                expected = dict(below)
                for name in above:
                    expected[name] = above[name]
                kept = list(below.items()), list(above.items())
                for found in (over(below, above), over(backwards(below), backwards(above))):
                    self.assertEqual(list(found.items()), sorted(expected.items()))
                self.assertEqual((list(below.items()), list(above.items())), kept)

    def test_one_by_one_and_at_once(self):
        many = many_layers(327, 12)
        for one, two, three in itertools.product(many, repeat=3):
            by_one = laid(laid(laid(plain_style(), one), two), three)
            self.assertEqual(laid(plain_style(), over(over(one, two), three)), by_one)
            self.assertEqual(laid(plain_style(), over(one, over(two, three))), by_one)

    def test_layer_between(self):
        styles = [laid(STYLE, layer) for layer in many_layers(427, 40)] + [plain_style()]
        for one in styles:
            self.assertEqual(layer_between(one, one), {})
            for other in styles:
                layer = layer_between(one, other)
                self.assertEqual(laid(one, layer), other)
                self.assertEqual(list(layer), sorted(name for name in NAMES if named(one)[name] != named(other)[name]))
                self.assertIs(is_layer(layer), True)
        self.assertEqual(list(layer_between(STYLE, plain_style())), sorted(NAMES))

    def test_what_is_told_is_new(self):
        one, other = {"width": 40}, {"step": 2}
        for found in (over(one, other), over(one, {}), over({}, one), layer_between(STYLE, plain_style()), read_layer("width = 8")):
            found.clear()
        self.assertEqual((one, other), ({"width": 40}, {"step": 2}))
        self.assertEqual(over(one, {}), one)
        self.assertEqual(len(layer_between(STYLE, plain_style())), 6)
        self.assertEqual(read_layer("width = 8"), {"width": 8})


class Show(unittest.TestCase):
    def test_few(self):
        self.assertEqual(show_layer({}), "")
        self.assertEqual(show_layer({"width": 40}), "width = 40")
        self.assertEqual(show_layer({"rank": ("lines", "over", "broken")}), "rank = lines over broken")
        self.assertEqual(show_layer(named(STYLE)), (
            "width = 40\nstep = 2\nblanks = 0\nrank = lines broken over\noperators = ahead\nlists = fill"))
        self.assertEqual(show_layer({"lists": "rows", "blanks": 3}), "blanks = 3\nlists = rows")

    def test_there_and_back(self):
        for name in NAMES:
            for value in RIGHT[name]:
                self.assertEqual(read_layer(show_layer({name: value})), {name: value})
        for layer in many_layers(527, 300):
            text = show_layer(layer)
            self.assertEqual(text, show_layer(backwards(layer)))
            found = read_layer(text)
            self.assertEqual(list(found.items()), sorted(layer.items()))
            self.assertEqual(repr(found), repr({name: layer[name] for name in sorted(layer)}))
            self.assertEqual([line.split(" ")[0] for line in text.split("\n") if line], [name for name in NAMES if name in layer])


class Read(unittest.TestCase):
    def check(self, text, line):
        with self.assertRaises(NoStyle) as caught:
            read_layer(text)
        self.assertEqual(repr(caught.exception.line), repr(line), text)

    def test_lines_in_any_order(self):
        lines = show_layer(named(STYLE)).split("\n")
        for order in itertools.permutations(lines):
            self.assertEqual(list(read_layer("\n".join(order)).items()), list(named(STYLE).items()))

    def test_spacing(self):
        for text in ("width=40", "width =40", "width= 40", "  width   =    40   ", "width=40#", "width = 40 # = 41", "#\n\n width = 40\n\n#",
                     "\n\nwidth=40\n", "   \n# width = 50\nwidth=40# step = 2\n   "):
            self.assertEqual(read_layer(text), {"width": 40}, text)
        for text in ("rank=over lines broken", "rank  =  over   lines   broken # rank = ", " rank= over lines broken"):
            self.assertEqual(read_layer(text), {"rank": ("over", "lines", "broken")})
        for text in ("", "\n", " ", "#", "# width = 1\n\n  # a\n   ", "\n" * 4000):
            self.assertEqual(read_layer(text), {})

    def test_all_numbers(self):
        for number in range(-3, 130):
            for name, low, high in (("width", 8, 120), ("step", 0, 8), ("blanks", 0, 3)):
                if low <= number <= high:
                    self.assertEqual(repr(read_layer(f"{name} = {number}")), repr({name: number}))
                else:
                    self.check(f"{name} = {number}", 0)

    def test_numbers_as_python_shows_them(self):
        for word in ("040", "+40", "4_0", "40.", "40.0", "0x28", "4e1", "- 40", "4 0", "fourty", "'40'", "(40)", "40,", "40;", "1" * 3900, "True"):
            self.check("width = " + word, 0)
        for word in ("00", "+0", "-0", "False", "True", "0.0", "01", "None", "()"):
            self.check("step = " + word, 0)
            self.check("blanks = " + word, 0)

    def test_values(self):
        for name in ("operators", "lists"):
            for word in ("ahead", "behind", "fill", "rows", "Ahead", "row", "over", "8", "ahead,", "'rows'"):
                if word in RIGHT[name]:
                    self.assertEqual(read_layer(f"{name} = {word}"), {name: word})
                else:
                    self.check(f"{name} = {word}", 0)
        for words in itertools.product(("over", "lines", "broken", "Over", ""), repeat=3):
            if words in RIGHT["rank"]:
                self.assertEqual(read_layer("rank = " + " ".join(words)), {"rank": words})
            else:
                self.check("rank = " + " ".join(words), 0)

    def test_bad_lines(self):
        for line in ("width", "=", "= 40", "width 40", "width 40 =", "40 = width", "width = ", "width =", "width = 40 50", "width = 40 40",
                     "width = = 40", "width == 40", "width = 40 =", "width = 40 = 40", "Width = 40", "widths = 40", "wid th = 40", "style = 40",
                     "width: 40", "width := 40", "a # width = 40", "rank = over", "rank = over lines", "rank = over lines broken over",
                     "rank = over, lines, broken", "rank = overlinesbroken", "rank = ('over', 'lines', 'broken')", "rank =", "lists = fill rows",
                     "operators = ahead behind", "lists = ", "width = #40", "width # = 40", "width = 40 step = 2", "width;", "\\", "let width = 40;",
                     "width : 40", "width is 40", "rank : over lines broken", "lists lists rows", "width = 7", "width = 121", "step = 9", "blanks = 4", "step = -1", "width=-40"):
            self.check(line, 0)
            self.check("# a\n\n" + line, 2)
            self.check("lists = rows\n\n" + line + "\nwidth = 1", 2)
            self.check(line + "\n" + line, 0)
            self.check("blanks=1\n" + "\n" * 9 + "  " + line + " # why", 10)

    def test_a_name_twice(self):
        for name in NAMES:
            text = show_layer({name: RIGHT[name][0]})
            self.check(text + "\n" + text, 1)
            self.check(text + "\n\n# again\n" + show_layer({name: RIGHT[name][1]}), 3)
            self.check(text + "\n" + name + " = no", 1)
            self.check(show_layer(named(STYLE)) + "\n" + text, 6)
        self.check("width = 7\nwidth = 8", 0)
        self.check("width = 8\nstep = 2\nwidth = 8\nstep = 9", 2)

    def test_what_is_no_string(self):
        for thing in OTHERS:
            with self.assertRaises(Wrong) as caught:
                read_layer(thing)
            self.assertEqual(repr(caught.exception.place), "0")
        for thing in STRANGE:
            # A string it is, but it shows nothing.
            if thing.startswith("#"):
                self.assertEqual(read_layer(thing), {})
            else:
                self.check(thing, 0)
        for thing in ([], ["width = 8"], {"width": 8}, ("width = 8",), b"width = 8", STYLE):
            with self.assertRaises(Wrong):
                read_layer(thing)

    def test_long_texts(self):
        self.assertEqual(read_layer("width" + " " * 1990 + "=" + " " * 1990 + "40"), {"width": 40})
        self.check("#\n" * 1990 + "a", 1990)


class Folders(unittest.TestCase):
    def test_layers_for(self):
        for path, folders in (
                ("a", [""]), ("a/b", ["", "a"]), ("lib", [""]), ("lib/b", ["", "lib"]), ("library", [""]), ("library/b", ["", "library"]),
                ("lib/old", ["", "lib"]), ("lib/old/b", ["", "lib", "lib/old"]), ("lib/older", ["", "lib"]),
                ("lib/older/b", ["", "lib", "lib/older"]), ("lib/old/er/b.ll", ["", "lib", "lib/old", "lib/old/er"]),
                ("lib/old/er", ["", "lib", "lib/old"]), ("old/lib/b", ["", "old"]), ("b/lib/old/c", [""]), ("lib/new/old/er/c", ["", "lib"]),
                ("Lib/b", [""]), ("lib/old.b/c", ["", "lib"]), ("li/b", [""])):
            for layers in (LAYERS, backwards(LAYERS), {folder: backwards(LAYERS[folder]) for folder in LAYERS}):
                found = layers_for(layers, path)
                self.assertIs(type(found), list)
                self.assertEqual(found, [(folder, LAYERS[folder]) for folder in folders], path)
                for _, layer in found:
                    self.assertEqual(list(layer), sorted(layer))

    def test_without_the_outermost(self):
        layers = {"lib": {"step": 2}}
        self.assertEqual(layers_for(layers, "a"), [])
        self.assertEqual(layers_for({}, "a/b"), [])
        self.assertEqual(layers_for(layers, "lib/a"), [("lib", {"step": 2})])

    def test_style_for(self):
        plain = plain_style()
        self.assertEqual(style_for(plain, LAYERS, "a"), (100,) + plain[1:])
        self.assertEqual(style_for(plain, LAYERS, "lib/a"), (100, 2, 0) + plain[3:])
        self.assertEqual(style_for(plain, LAYERS, "lib/old/a"), (30, 8, 0) + plain[3:])
        self.assertEqual(style_for(plain, LAYERS, "lib/old/er/a"), (30, 8, 0, plain[3], "ahead", "rows"))
        self.assertEqual(style_for(plain, LAYERS, "lib/older/a"), (100, 2, 3) + plain[3:])
        self.assertEqual(style_for(plain, backwards(LAYERS), "lib/old/a"), (30, 8, 0) + plain[3:])
        self.assertEqual(style_for(plain, {}, "lib/old/a"), plain)

    def test_style_for_is_one_behind_the_other(self):
        source = random.Random(627)
        folders = ["", "a", "b", "a/a", "a/b", "b/a", "a/a/a", "a/a/b", "aa", "ab/a"]
        for _ in range(200):
            layers = {folder: any_layer(source) for folder in source.sample(folders, source.randrange(8))}
            path = "/".join(source.choice("ab") for _ in range(source.randrange(1, 5)))
            expected = STYLE
            for size in range(path.count("/") + 1):
                folder = "/".join(path.split("/")[:size])
                expected = laid(expected, layers.get(folder, {}))
            self.assertEqual(style_for(STYLE, layers, path), expected)
            at_once = {}
            for _, layer in layers_for(layers, path):
                at_once = over(at_once, layer)
            self.assertEqual(laid(STYLE, at_once), expected)

    def test_same_style_paths(self):
        paths = ["lib/b", "a", "lib/a", "lib/old/a", "b", "library/z", "library", "lib/old/er/a", "a/a", "old/a"]
        expected = [("a", "a/a", "b", "library"), ("lib/a", "lib/b"), ("lib/old/a",), ("lib/old/er/a",), ("library/z",), ("old/a",)]
        source = random.Random(27)
        for _ in range(20):
            source.shuffle(paths)
            kept = list(paths)
            self.assertEqual(same_style_paths(plain_style(), LAYERS, paths), expected)
            self.assertEqual(same_style_paths(plain_style(), backwards(LAYERS), tuple(paths)), expected)
            self.assertEqual(paths, kept)
        self.assertEqual(same_style_paths(STYLE, LAYERS, []), [])
        self.assertEqual(same_style_paths(STYLE, {}, ["b", "a", "b", "a"]), [("a", "b")])
        # Styles are the same, wherever they come from.
        layers = {"a": {"width": 8, "step": 0}, "b": {"step": 0}, "b/c": {"width": 8}}
        self.assertEqual(same_style_paths(STYLE, layers, ["b/c/d", "a/z", "b/z"]), [("a/z", "b/c/d"), ("b/z",)])

    def test_what_is_told_is_new(self):
        layers = {"": {"width": 100}, "a": {"step": 2}}
        found = layers_for(layers, "a/b")
        self.assertIsNot(found[0][1], layers[""])
        found[0][1].clear()
        found.clear()
        self.assertEqual(layers, {"": {"width": 100}, "a": {"step": 2}})
        self.assertEqual(layers_for(layers, "a/b"), [("", {"width": 100}), ("a", {"step": 2})])
        same_style_paths(STYLE, layers, ["a"]).clear()
        self.assertEqual(same_style_paths(STYLE, layers, ["a"]), [("a",)])


if __name__ == "__main__":
    unittest.main()
