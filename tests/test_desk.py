"""Point 36: a project that is led by lines."""

import random
import unittest

from leastlaid.changes import changed
from leastlaid.checker import report
from leastlaid.cutting import lines_of
from leastlaid.desk import Desk
from leastlaid.errors import Faulty, NoChange, NoCommand, NoFile, Wrong
from leastlaid.formatting import formatted, least_of
from leastlaid.owners import owned
from leastlaid.pages import page_of
from leastlaid.project import Project, style_at, words_for, writes_for
from leastlaid.ranges import format_lines
from leastlaid.reading import faults_of
from tests.documents import RANKS
from tests.test_project import NO_STYLES, any_files
from tests.values import OTHERS, STRANGE

STYLE = (20, 2, 1, RANKS[0], "ahead", "rows")
FILES = {
    "a": "let x=alpha+beta+gamma; # sum\n", "lib/b": "f(1,\n2);\n\n\n\n# b\nx ;", "lib/style": "width = 60\nlists=fill", "c": "let 1;",
    "d": "", "old/style": "width", "e": "f();\n",
}
LINES = (
    "put a b;", "drop a", "edit a 0 0 x", "range lib/b 0 1", "words", "run 1", "left", "show lib/b", "want a", "worse a", "check a", "style a", "notes a",
)
BAD_PATHS = ("/", "/a", "a/", "a//b", "let", "a/let", "1", "1a", "a.b", "a-b", "a/1", "none", "\"a\"")
BAD_NUMBERS = ("-1", "+1", "01", "00", "1.0", "1,", "a", "1234567890", "0x1", "1_0", "", "''")


class Commands(unittest.TestCase):
    def setUp(self):
        self.desk = Desk(FILES, STYLE)

    def check(self, line, *expected):
        found = self.desk.execute(line)
        self.assertEqual(found, list(expected), line)
        self.assertIs(type(found), list)

    def text(self, path):
        return self.desk.project().files()[path]

    def test_put(self):
        for line, text in (
                ("put new x;", "x;"), ("put new", ""), ("put new ", ""), ("put new  ", " "), ("put new   x  y  ", "  x  y  "), ("put new 1", "1"),
                ("put new a\\nb", "a\nb"), ("put new \\\\n", "\\n"), ("put new \\\\\\n\\\\", "\\\n\\"), ("put new \\n", "\n"),
                ("  put    new x", "x"), ("  put    new  x ", " x "), ("put new put new", "put new"), ("put new \"\\\\\"\";", "\"\\\"\";")):
            self.check(line, "done")
            self.assertEqual(self.text("new"), text)
        self.check("put a/b/style step = 1", "done")
        self.assertEqual(self.text("a/b/style"), "step = 1")

    def test_drop(self):
        self.check("drop a", "done")
        self.check("  drop   lib/b  ", "done")
        self.assertEqual(sorted(self.desk.project().files()), ["c", "d", "e", "lib/style", "old/style"])

    def test_edit(self):
        for line, change in (
                ("edit a 0 0 y;", (0, 0, "y;")), ("edit a 4 5", (4, 5, "")), ("edit a 4 5 ", (4, 5, "")), ("edit a 4 5  ", (4, 5, " ")),
                ("  edit  a  4  5 \\n z ", (4, 5, "\n z ")), ("edit a 0 30 \\\\", (0, 30, "\\")), ("edit a 30 30 1 2", (30, 30, "1 2"))):
            desk = Desk(FILES, STYLE)
            self.assertEqual(desk.execute(line), ["done"])
            self.assertEqual(desk.project().files(), {**FILES, "a": changed(FILES["a"], change)})
        self.check("edit lib/style 8 10 30", "done")
        self.assertEqual(self.text("lib/style"), "width = 30\nlists=fill")

    def test_range(self):
        text = FILES["lib/b"]
        for first, last in ((0, 0), (0, 1), (1, 1), (2, 4), (2, 5), (5, 6), (6, 6), (0, 999999999), (3, 2), (7, 7)):
            desk = Desk(FILES, STYLE)
            self.assertEqual(desk.execute(f" range  lib/b {first}  {last} "), ["done"])
            expected = format_lines(text, style_at(FILES, STYLE, "lib/b"), first, last)
            self.assertEqual(desk.project().files(), {**FILES, "lib/b": expected})
        self.check("range d 0 0", "done")
        self.check("range a 0 0", "done")
        self.assertEqual(self.text("a"), "let x = alpha\n  + beta\n  + gamma; # sum\n")

    def test_words_run_and_left(self):
        self.check("words", "a changed", "c faulty", "d same", "e same", "lib/b changed", "lib/style style", "old/style bad")
        self.check(" left  ", "2")
        self.check("run 0")
        self.check("run 1", "a")
        self.check("left", "1")
        self.check("   run   999999999   ", "lib/b")
        self.check("run 9")
        self.check("left", "0")
        self.check("words", "a same", "c faulty", "d same", "e same", "lib/b same", "lib/style style", "old/style bad")

    def test_show_and_want(self):
        self.check("show lib/b", "f(1,", "2);", "", "", "", "# b", "x ;")
        self.check("show d")
        self.check("show c", "let 1;")
        self.check("show e", "f();", "")
        self.check("show lib/style", "width = 60", "lists=fill")
        self.check("want lib/b", "f(1, 2);", "", "# b", "x;", "")
        self.check("want a", "let x = alpha", "  + beta", "  + gamma; # sum", "")
        self.check("want d")
        self.assertEqual(self.desk.project().files(), FILES)

    def test_worse(self):
        self.check("worse a", "0 3 1 1")
        self.check("worse d", "0 0 0 0")
        self.check("worse lib/b", "0 4 0 2")
        self.check("put g " + "x" * 30 + ";\\nif a{b;c;}\\n# z", "done")
        self.check("worse g", "11 6 0 2")

    def test_check(self):
        self.check("check e")
        self.check("check d")
        self.check("check c", "1:5: fault name")
        self.check("check a", *report(FILES["a"], STYLE))
        self.check("check lib/b", *report(FILES["lib/b"], style_at(FILES, STYLE, "lib/b")))
        self.assertEqual(self.desk.execute("check a"), [
            "1:6: blanks", "1:7: blanks", "1:12: lines", "1:13: blanks", "1:17: lines", "1:18: blanks"])

    def test_style(self):
        own = ("step = 2", "blanks = 1", "rank = over lines broken", "operators = ahead")
        self.check("style a", "width = 20", *own, "lists = rows")
        self.check("style lib/b", "width = 60", *own, "lists = fill")
        self.check("style lib/style", "width = 60", *own, "lists = fill")
        self.check("style old/style", "width = 20", *own, "lists = rows")

    def test_notes(self):
        self.check("notes a", "0 24 behind 8")
        self.check("notes lib/b", "5 0 ahead 7")
        self.check("notes e")
        self.check("put g # a\\nf(<* b *> # c\\n<* d\\n*> <* e *>);\\n# f", "done")
        self.check("notes g", "0 0 ahead 0", "1 2 behind 1", "1 10 behind 1", "2 0 ahead 2", "3 3 ahead 2", "4 0 ahead 4")


class Blanks(unittest.TestCase):
    def test_any_blanks_between_words(self):
        for line in LINES:
            if line.split()[0] in ("put", "edit"):
                continue
            expected = Desk(FILES, STYLE)
            answer = expected.execute(line)
            for other in ("  " + line, line + "   ", " " + line.replace(" ", "    ") + " "):
                desk = Desk(FILES, STYLE)
                self.assertEqual(desk.execute(other), answer)
                self.assertTrue(desk == expected)


def told(desk):
    return desk.project().files(), desk.execute("words"), desk.execute("left")


class Errors(unittest.TestCase):
    def hold(self, kind, line):
        """A line raises an error, and nothing has changed."""
        desk = Desk(FILES, STYLE)
        before = told(desk)
        with self.assertRaises(kind) as caught:
            desk.execute(line)
        self.assertEqual(told(desk), before, line)
        self.assertIs(type(caught.exception), kind)
        return caught.exception

    def test_no_command(self):
        for line in (
                "", " ", "   ", "\n", "words\n", "\nwords", "wor ds", "words a", "words 1", "left 1", "left a", "run", "run a", "run 1 2", "put", "put ",
                "drop", "drop a b", "drop  ", "edit a", "edit a 1", "edit 1 1 a", "edit a 1 x", "range a 1", "range a", "range a 1 2 3", "range a 1 2 x",
                "show", "show a a", "want", "want a 1", "worse", "check", "check a b", "style", "style a b", "notes", "notes a b", "do a", "help",
                "show(a)", "put a\\nb", "edit a 0 0 \n", "put a b\nc", "edit a 2 1 x", "edit a 1 0", "edit nothing 2 1 x", "edit a 999999999 0", "show a\n"):
            self.hold(NoCommand, line)
        for line in LINES:
            name = line.split()[0]
            for other in (name.upper() + line[len(name):], name.capitalize() + line[len(name):], name[:-1] + line[len(name):],
                          name + "s" + line[len(name):], name + "_" + line[len(name):], line + "\n", "x " + line, "\"" + line):
                self.hold(NoCommand, other)

    def test_paths_that_are_none(self):
        for path in BAD_PATHS:
            for line in LINES:
                words = line.split(" ")
                if len(words) > 1 and not words[1].isdigit():
                    self.hold(NoCommand, " ".join(words[:1] + [path] + words[2:]))

    def test_numbers_that_are_none(self):
        for number in BAD_NUMBERS:
            for line in ("run N", "edit a N 1 x", "edit a 1 N x", "range a N 1", "range a 0 N", "edit a N N", "range nothing N 1"):
                self.hold(NoCommand, line.replace("N", number))
        for number in ("0", "9", "10", "123456789"):
            self.assertEqual(type(Desk(FILES, STYLE).execute("run " + number)), list)

    def test_strings_that_are_none(self):
        for string in ("\\", "a\\", "\\t", "\\N", "\\ n", "\\\"", "\\\\\\", "a\\x", "\\n\\", "\\'"):
            for line in ("put a ", "put new ", "edit a 0 0 ", "edit nothing 0 0 "):
                self.hold(NoCommand, line + string)

    def test_no_file(self):
        for path in ("nothing", "lib", "lib/b/c", "style", "A"):
            for line in LINES:
                words = line.split(" ")
                if len(words) > 1 and words[1] in FILES and words[0] != "put":
                    self.assertEqual(self.hold(NoFile, " ".join(words[:1] + [path] + words[2:])).path, path)

    def test_no_change(self):
        for line, change in (("edit a 0 31 x", (0, 31, "x")), ("edit a 31 31", (31, 31, "")), ("edit d 1 1 \\n", (1, 1, "\n")),
                             ("edit c 0 999999999 ", (0, 999999999, ""))):
            self.assertEqual(self.hold(NoChange, line).change, change)

    def test_faulty(self):
        for path in ("c", "lib/style", "old/style"):
            for line in ("range PATH 0 0", "range PATH 5 2", "want PATH", "worse PATH", "notes PATH"):
                self.assertEqual(self.hold(Faulty, line.replace("PATH", path)).faults, tuple(faults_of(FILES[path])))

    def test_wrong(self):
        for thing in OTHERS + (("words",), ["words"], {"words": 1}, 1, b"words", Desk({}, STYLE)):
            self.assertEqual(self.hold(Wrong, thing).place, 0)
        for thing in STRANGE:
            self.hold(NoCommand, thing)
            self.hold(NoCommand, "show " + thing)
            self.hold(NoCommand, "put a " + thing)

    def test_wrong_ones_to_begin_with(self):
        for thing in OTHERS + STRANGE + ({"a": 1}, {"let": ""}, {"a": "", "b/": ""}, [("a", "")]):
            if thing != {}:
                for style in (STYLE, None):
                    with self.assertRaises(Wrong) as caught:
                        Desk(thing, style)
                    self.assertEqual(caught.exception.place, 0)
        for thing in NO_STYLES:
            with self.assertRaises(Wrong) as caught:
                Desk(FILES, thing)
            self.assertEqual(caught.exception.place, 1)


class Led(unittest.TestCase):
    def answer(self, project, files, style, line):
        """The answer to a line that raises nothing, by the functions; files are those that stand."""
        name, *words = line.split(" ")
        at = style_at(files, style, words[0]) if words and not words[0].isdigit() else None
        if name == "words":
            return [f"{path} {word}" for path, word in words_for(files, style).items()]
        if name == "left":
            return [str(len(writes_for(files, style)))]
        if name == "run":
            return project.run(int(words[0]))
        text = files[words[0]]
        if name == "show":
            return lines_of(text) if text else []
        if name == "want":
            return lines_of(formatted(text, at)) if formatted(text, at) else []
        if name == "worse":
            page = page_of(text)
            return [" ".join(map(str, least_of(page, at) + (len(page[0]),)))]
        if name == "check":
            return report(text, at)
        if name == "notes":
            return [f"{place[0]} {place[1]} {word} {index}" for _, place, index, word in owned(text)]
        project.put(words[0], format_lines(text, at, int(words[1]), int(words[2])))
        return ["done"]

    def test_any_rows(self):
        for number in range(40):
            source = random.Random(3600 + number)
            files = any_files(source)
            desk, project = Desk(files, STYLE), Project(files, STYLE)
            for _ in range(15):
                stand = project.files()
                path = source.choice(sorted(stand) or ["a"])
                line = source.choice((
                    "words", "left", "run 1", "run 0", f"show {path}", f"want {path}", f"worse {path}", f"check {path}", f"notes {path}",
                    f"range {path} {source.randrange(9)} {source.randrange(30)}"))
                try:
                    expected = self.answer(project, stand, STYLE, line)
                except (Faulty, KeyError) as error:
                    self.assertRaises(Faulty if isinstance(error, Faulty) else NoFile, desk.execute, line)
                else:
                    self.assertEqual(desk.execute(line), expected)
                self.assertTrue(desk.project() == project)


class Objects(unittest.TestCase):
    def test_they_go_on_alone(self):
        files = dict(FILES)
        desk = Desk(files, STYLE)
        files.clear()
        self.assertEqual(desk.project().files(), FILES)
        project = desk.project()
        project.drop("a")
        self.assertEqual(desk.project().files(), FILES)
        other = desk.twin()
        self.assertTrue(other == desk)
        other.execute("drop a")
        self.assertEqual(desk.execute("left"), ["2"])
        desk.execute("run 9")
        self.assertEqual(other.execute("left"), ["1"])
        desk.execute("words").clear()
        self.assertEqual(len(desk.execute("words")), 7)
        self.assertIsNot(desk.project(), desk.project())

    def test_equality(self):
        desk = Desk(FILES, STYLE)
        self.assertIs(desk == Desk(dict(reversed(FILES.items())), STYLE), True)
        self.assertIs(desk != Desk(FILES, STYLE), False)
        self.assertIs(desk == Desk(FILES, STYLE[:5] + ("fill",)), False)
        self.assertIs(desk == Desk({}, STYLE), False)
        for thing in OTHERS + STRANGE + (FILES, Project(FILES, STYLE), Desk):
            self.assertIs(desk == thing, False)
            self.assertIs(thing == desk, False)


if __name__ == "__main__":
    unittest.main()
