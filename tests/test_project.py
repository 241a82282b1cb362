"""Point 35: many files, formatted by the styles of their folders."""

import random
import unittest

from leastlaid.errors import NoFile, NoStyle, Wrong
from leastlaid.formatting import formatted
from leastlaid.project import (
    Project, after_writes, bad_styles, layers_in, style_at, wanted_files, words_for, writes_for)
from leastlaid.reading import faults_of
from leastlaid.styletexts import read_layer, style_for
from tests.documents import RANKS
from tests.values import OTHERS, STRANGE
from tests.writing import any_text

STYLE = (80, 4, 1, RANKS[0], "behind", "rows")
NARROW = (20, 2, 0, RANKS[0], "ahead", "fill")
FILES = {
    "lib/style": "step = 2", "lib/b": "if x{f();}", "a": "let x=1;", "old/style": "step = 9", "lib/old/style": "width=20 # narrow\nlists = fill",
    "lib/old/c": "f(aaaaaaaa, bbbbbbbb, cccccccc);", "lib/c": "let", "d": "give;\n", "libs": "if x{f();}", "lib/old/d/e": "if x{f();}",
    "old/a": "if x{f();}", "mystyle": "width = 9", "style/a": "if x{f();}", "styles": "step = 1;", "lib/older/a": "a;",
}
NO_PATHS = (
    "", "/", "/a", "a/", "a//b", "let", "a/let", "if/a", "1", "a/1b", "a b", " a", "a ", "a.b", "a/./b", "a-b", "a\nb", "\u00e9", "a/none",
    None, True, 0, 1.5, (), ("a",), ["a"], {"a": "b"}, b"a", Wrong(0))
NO_TEXTS = (None, True, 0, (), ["a"], {}, "\t", "a\r\n", "\x00", "\u00e9", Wrong("a"), ("a",))
NO_STYLES = OTHERS + STRANGE + (STYLE[:5], list(STYLE), (7,) + STYLE[1:], (True,) + STYLE[1:], STYLE[:4] + ("Ahead", "rows"))


def turned(files):
    """The same FILES with their keys the other way round."""
    return {path: files[path] for path in sorted(files, reverse=True)}


def plain_layers(files):
    found = {}
    for path, text in files.items():
        folder, name = ("/" + path).rsplit("/", 1)
        if name == "style":
            try:
                found[folder[1:]] = read_layer(text)
            except NoStyle:
                pass
    return found


def plain_wanted(files, style):
    found = {}
    for path in sorted(files):
        text = files[path]
        is_code = path.split("/")[-1] != "style" and not faults_of(text)
        found[path] = formatted(text, style_for(style, plain_layers(files), path)) if is_code else text
    return found


def any_files(source):
    """FILES, by a source of random numbers."""
    found = {}
    for _ in range(source.randrange(7)):
        path = "/".join(source.choice(("a", "b", "lib", "style", "styles")) for _ in range(source.randrange(1, 4)))
        if path.split("/")[-1] == "style":
            found[path] = source.choice(("width = 30", "step=1", "", "# none\nblanks = 0\nlists = fill", "operators = ahead", "width = 7", "a = b", "step"))
        else:
            found[path] = any_text(source.randrange(10 ** 6), deep=1)[0] if source.random() < 0.8 else "let"
            if source.random() < 0.3 and found[path] != "let":
                found[path] = formatted(found[path], STYLE)
    return found


class Functions(unittest.TestCase):
    def ascends(self, found):
        self.assertEqual(list(found), sorted(found))

    def test_layers_in(self):
        self.assertEqual(layers_in({}), {})
        self.assertEqual(layers_in(FILES), {"lib": {"step": 2}, "lib/old": {"lists": "fill", "width": 20}})
        self.assertEqual(layers_in({"style": "step = 3", "a/b/style": "", "a/style": "x"}), {"": {"step": 3}, "a/b": {}})
        self.assertEqual(layers_in({"style/style": "width = 8", "mystyle": "width = 9", "styles": "", "style/a": ""}), {"style": {"width": 8}})
        self.ascends(layers_in(turned(FILES)))
        self.ascends(layers_in({"b/style": "", "style": "", "a/style": "", "a/b/style": ""}))

    def test_style_at(self):
        for path, expected in (
                ("a", STYLE), ("lib/b", (80, 2) + STYLE[2:]), ("lib/style", (80, 2) + STYLE[2:]), ("libs", STYLE), ("lib", STYLE),
                ("lib/old/c", (20, 2) + STYLE[2:5] + ("fill",)), ("lib/old/d/e", (20, 2) + STYLE[2:5] + ("fill",)),
                ("lib/older/a", (80, 2) + STYLE[2:]), ("old/a", STYLE), ("lib/nowhere/at/all", (80, 2) + STYLE[2:])):
            self.assertEqual(style_at(FILES, STYLE, path), expected)
            self.assertEqual(style_at(turned(FILES), STYLE, path), expected)
        self.assertEqual(style_at({"style": "width = 9"}, STYLE, "a/b")[0], 9)
        self.assertEqual(style_at({"style": "width = 9", "a/style": "width = 10"}, STYLE, "a/b")[0], 10)

    def test_bad_styles(self):
        self.assertEqual(bad_styles({}), [])
        self.assertEqual(bad_styles(FILES), [("old/style", 0)])
        files = {"z/style": "# a\nwidth = 8\nwidth = 8", "style": "\n\nstep = 09", "a/style": "step = 1", "a/b/style": "let", "a/styles": "let"}
        self.assertEqual(bad_styles(files), [("a/b/style", 0), ("style", 2), ("z/style", 2)])

    def test_wanted_files(self):
        wanted = wanted_files(turned(FILES), STYLE)
        self.ascends(wanted)
        self.assertEqual(wanted, plain_wanted(FILES, STYLE))
        self.assertEqual(wanted["lib/old/c"], "f(\n  aaaaaaaa,\n  bbbbbbbb, cccccccc\n);\n")
        self.assertEqual([wanted["libs"], wanted["lib/b"]], ["if x {\n    f();\n}\n", "if x {\n  f();\n}\n"])
        for path in ("lib/style", "old/style", "lib/c", "d", "styles"):
            self.assertEqual(wanted[path], FILES[path])
        self.assertEqual(wanted_files({}, STYLE), {})

    def test_writes_for(self):
        wanted = wanted_files(FILES, STYLE)
        expected = [(path, wanted[path]) for path in sorted(FILES) if wanted[path] != FILES[path]]
        self.assertEqual(writes_for(turned(FILES), STYLE), expected)
        self.assertEqual([path for path, _ in expected], ["a", "lib/b", "lib/old/c", "lib/old/d/e", "lib/older/a", "libs", "old/a", "style/a"])
        self.assertEqual(writes_for(wanted, STYLE), [])

    def test_after_writes(self):
        files = {"b": "1", "a": "2"}
        writes = [("a", "x"), ("b", "y"), ("c", "z")]
        for many, expected in ((0, {"a": "2", "b": "1"}), (1, {"a": "x", "b": "1"}), (2, {"a": "x", "b": "y"}),
                               (3, {"a": "x", "b": "y", "c": "z"}), (10 ** 9, {"a": "x", "b": "y", "c": "z"})):
            for kind in (list, tuple):
                found = after_writes(files, kind(writes), many)
                self.assertEqual(found, expected)
                self.ascends(found)
        self.assertEqual([files, writes], [{"b": "1", "a": "2"}, [("a", "x"), ("b", "y"), ("c", "z")]])
        self.assertEqual(list(after_writes({}, [("b", ""), ("a", "")], 2)), ["a", "b"])

    def test_words_for(self):
        words = words_for(turned(FILES), STYLE)
        self.ascends(words)
        self.assertEqual(words, {
            "a": "changed", "d": "same", "lib/b": "changed", "lib/c": "faulty", "lib/old/c": "changed", "lib/old/d/e": "changed",
            "lib/old/style": "style", "lib/older/a": "changed", "lib/style": "style", "libs": "changed", "mystyle": "faulty", "old/a": "changed",
            "old/style": "bad", "style/a": "changed", "styles": "faulty"})
        self.assertEqual(words_for({"a": ""}, STYLE), {"a": "same"})
        self.assertEqual(words_for(FILES, NARROW)["lib/old/c"], "changed")

    def test_writing_cut_anywhere_and_gone_on_with(self):
        for number in range(60):
            files = any_files(random.Random(number))
            writes = writes_for(files, STYLE)
            self.assertEqual(wanted_files(files, STYLE), plain_wanted(files, STYLE))
            self.assertEqual(layers_in(files), plain_layers(files))
            for many in range(len(writes) + 2):
                half = after_writes(files, writes, many)
                self.assertEqual(writes_for(half, STYLE), writes[many:])
                for more in (0, 1, 99):
                    found = after_writes(half, writes_for(half, STYLE), more)
                    self.assertEqual(writes_for(found, STYLE), writes[many:][more:])
                self.assertEqual(found, wanted_files(files, STYLE))
            words = words_for(files, STYLE)
            self.assertEqual([path for path in words if words[path] == "changed"], [path for path, _ in writes])
            self.assertEqual([path for path in words if words[path] == "bad"], [path for path, _ in bad_styles(files)])

    def test_files_stay(self):
        files = turned(FILES)
        kept = repr(files)
        for function in (layers_in, bad_styles):
            function(files).clear()
            self.assertEqual(repr(files), kept)
        for function in (wanted_files, writes_for, words_for):
            function(files, STYLE).clear()
            self.assertEqual(repr(files), kept)
        layers_in(files)["lib"]["step"] = 7
        self.assertEqual(layers_in(files)["lib"], {"step": 2})


def told(project):
    return project.files(), project.left(), [project.word(path) for path in project.files()]


class Led(unittest.TestCase):
    def hold(self, project, files, style):
        found = project.files()
        self.assertEqual(found, files)
        self.assertEqual(list(found), sorted(files))
        self.assertEqual(project.left(), len(writes_for(files, style)))
        words = words_for(files, style)
        self.assertEqual({path: project.word(path) for path in files}, words)
        self.assertTrue(project == Project(files, style))
        with self.assertRaises(NoFile) as caught:
            project.word("no/where")
        self.assertEqual(caught.exception.path, "no/where")

    def test_any_rows(self):
        for number in range(20):
            source = random.Random(3500 + number)
            files = any_files(source)
            style = source.choice((STYLE, NARROW))
            project = Project(turned(files), style)
            for _ in range(12):
                sort = source.choice(("put", "put", "drop", "run", "run"))
                if sort == "put":
                    path, text = source.choice(list(any_files(source).items()) or [("a", "b ;")])
                    self.assertIsNone(project.put(path, text))
                    files[path] = text
                elif sort == "drop":
                    path = source.choice(sorted(files) + ["nothing"])
                    if path in files:
                        self.assertIsNone(project.drop(path))
                        del files[path]
                    else:
                        with self.assertRaises(NoFile) as caught:
                            project.drop(path)
                        self.assertEqual(caught.exception.path, path)
                else:
                    many = source.choice((0, 1, 2, 99, 10 ** 30))
                    writes = writes_for(files, style)
                    self.assertEqual(project.run(many), [path for path, _ in writes][:many])
                    files = after_writes(files, writes, many)
                self.hold(project, files, style)


class Errors(unittest.TestCase):
    def test_wrong_files(self):
        wrong = [thing for thing in OTHERS + STRANGE if thing != {} and not isinstance(thing, dict)] + [{"a": 1}, {1: ()}]
        for path in NO_PATHS:
            if not isinstance(path, (list, dict)):
                wrong += [{path: ""}, {"a": "b;", path: "", "c": ""}, {"a": "b;", path: "\t"}]
        for text in NO_TEXTS:
            wrong += [{"a": text}, {"a": "b;", "b": text, "style": ""}, {"style": text}]
        for thing in wrong:
            for style in (STYLE, None):
                with self.assertRaises(Wrong) as caught:
                    Project(thing, style)
                self.assertEqual(caught.exception.place, 0)
        for thing in NO_STYLES:
            with self.assertRaises(Wrong) as caught:
                Project(FILES, thing)
            self.assertEqual(caught.exception.place, 1)
        self.assertEqual(Project({}, STYLE).files(), {})

    def hold(self, kind, call, *arguments):
        """A call raises an error, and nothing has changed."""
        project = Project(FILES, STYLE)
        before = told(project)
        with self.assertRaises(kind) as caught:
            getattr(project, call)(*arguments)
        self.assertEqual(told(project), before)
        return caught.exception

    def test_wrong_paths_and_texts(self):
        for thing in NO_PATHS:
            self.assertEqual(self.hold(Wrong, "put", thing, "a;").place, 0)
            self.assertEqual(self.hold(Wrong, "put", thing, None).place, 0)
            self.assertEqual(self.hold(Wrong, "drop", thing).place, 0)
        for thing in NO_TEXTS:
            self.assertEqual(self.hold(Wrong, "put", "a", thing).place, 1)
            self.assertEqual(self.hold(Wrong, "put", "new", thing).place, 1)

    def test_wrong_numbers(self):
        for thing in OTHERS + STRANGE:
            if isinstance(thing, bool) or not isinstance(thing, int) or thing < 0:
                self.assertEqual(self.hold(Wrong, "run", thing).place, 0)

    def test_no_file(self):
        for path in ("nothing", "lib", "lib/old", "lib/b/c", "A"):
            self.assertEqual(self.hold(NoFile, "drop", path).path, path)
            self.assertEqual(self.hold(NoFile, "word", path).path, path)

    def test_paths_that_are(self):
        project = Project({}, STYLE)
        for path in ("a", "_", "a1", "lets", "style", "a/b/c", "style/style", "If", "x_/y_9/Z"):
            self.assertIsNone(project.put(path, ""))
        self.assertEqual(len(project.files()), 9)


class Objects(unittest.TestCase):
    def test_what_is_handed_in_and_told_is_others_own(self):
        files = dict(FILES)
        project = Project(files, STYLE)
        files["a"] = "b;"
        files.pop("d")
        self.assertEqual(project.files(), FILES)
        project.files().clear()
        self.assertEqual(project.files(), FILES)
        project.run(99).clear()
        self.assertEqual(project.left(), 0)

    def test_twins(self):
        project = Project(FILES, STYLE)
        other = project.twin()
        self.assertTrue(project == other)
        other.put("a", "b;")
        self.assertEqual([project.files()["a"], other.files()["a"], project == other], ["let x=1;", "b;", False])
        project.run(99)
        self.assertGreater(other.left(), 0)
        other.drop("d")
        self.assertEqual(project.word("d"), "same")

    def test_equality(self):
        project = Project(FILES, STYLE)
        self.assertIs(project == Project(turned(FILES), STYLE), True)
        self.assertIs(project != Project(turned(FILES), STYLE), False)
        self.assertIs(project == Project(FILES, NARROW), False)
        self.assertIs(project == Project({**FILES, "a": ""}, STYLE), False)
        self.assertIs(Project({}, STYLE) == Project({}, STYLE), True)
        for thing in OTHERS + STRANGE + (FILES, (FILES, STYLE), Project):
            self.assertIs(project == thing, False)
            self.assertIs(thing == project, False)


if __name__ == "__main__":
    unittest.main()
