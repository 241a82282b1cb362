"""Point 34: a text that is kept formatted; and point 10."""

import random
import unittest

from leastlaid.changes import change_between, changed
from leastlaid.errors import Faulty, NoChange, Nothing, Wrong
from leastlaid.formatting import formatted
from leastlaid.keeper import Keeper
from leastlaid.pages import page_of, parted
from leastlaid.reading import faults_of
from tests.documents import RANKS
from tests.values import OTHERS, STRANGE
from tests.writing import any_style, any_text

STYLE = (40, 2, 1, RANKS[0], "ahead", "fill")
OTHER = (30, 4, 0, RANKS[1], "behind", "rows")
TEXT = "let a=1;\nset a=a+1;"
NO_TEXTS = tuple(thing for thing in OTHERS if not isinstance(thing, str)) + STRANGE
NO_STYLES = OTHERS + STRANGE + (
    STYLE[:5], STYLE + ("fill",), list(STYLE), (7,) + STYLE[1:], (True,) + STYLE[1:], STYLE[:1] + (False,) + STYLE[2:],
    STYLE[:3] + (list(RANKS[0]),) + STYLE[4:], STYLE[:5] + ("Fill",), STYLE[:3] + (RANKS[0] + ("over",),) + STYLE[4:])
NO_CHANGES = OTHERS + STRANGE + ((0, 0), (1, 0, ""), [0, 0, ""], (0, True, "x"), (0, 0, "\t"), (-1, 0, ""), (0, 0, None))


class PlainKeeper:
    """What is to be kept, told from nothing in each state."""

    def __init__(self, text, style):
        self.states, self.known, self.last = [], [], None
        self.come_to(text, style)

    def come_to(self, text, style):
        self.text, self.style = text, style
        if faults_of(text):
            return
        self.last = formatted(text, style)
        parts, _, comments = parted(page_of(text))
        for part in [page for _, page in parts] + [comments] * bool(comments):
            if (style, part) not in self.known:
                self.known.append((style, part))

    def go_to(self, text, style):
        self.states.append((self.text, self.style))
        self.come_to(text, style)


def told(keeper):
    """All that a Keeper tells."""
    try:
        text = keeper.formatted()
    except Faulty as fault:
        text = ("faulty", fault.faults)
    return keeper.text(), keeper.style(), keeper.faults(), text, keeper.last_formatted(), keeper.laid_out()


class Led(unittest.TestCase):
    """Keepers that are led by rows of calls."""

    def hold(self, keeper, plain):
        faults = tuple(faults_of(plain.text))
        text = ("faulty", faults) if faults else formatted(plain.text, plain.style)
        self.assertEqual(told(keeper), (plain.text, plain.style, faults, text, plain.last, len(plain.known)))
        fresh = Keeper(plain.text, plain.style)
        self.assertEqual(told(fresh)[:4], told(keeper)[:4])
        self.assertTrue(keeper == fresh)

    def step(self, source, keeper, plain):
        """One call, as the plain one tells it."""
        sort = source.choice(("change", "change", "change", "change", "break", "restyle", "undo", "undo", "take over"))
        if sort in ("change", "break"):
            begin = source.randrange(len(plain.text) + 1)
            end = min(len(plain.text), begin + source.choice((0, 0, 1, 3, 9)))
            piece = source.choice(("(", "]", "let", "\"", "<*", "1 2")) if sort == "break" else source.choice(
                ("", "", " ", "\n", "\n\n\n", "let a=1;", "\n# up\n", " <* c *> ", "a", "# z", ";", "if a{b;\n\n\nc;}", TEXT))
            change = (begin, end, piece)
            self.assertIsNone(keeper.change(change))
            plain.go_to(changed(plain.text, change), plain.style)
        elif sort == "restyle":
            style = source.choice((STYLE, OTHER, STYLE[:2] + (2,) + STYLE[3:]))
            self.assertIsNone(keeper.restyle(style))
            plain.go_to(plain.text, style)
        elif sort == "undo" and plain.states:
            self.assertIsNone(keeper.undo())
            plain.come_to(*plain.states.pop())
        elif sort == "undo":
            self.assertRaises(Nothing, keeper.undo)
        elif not faults_of(plain.text):
            self.assertIsNone(keeper.take_over())
            plain.go_to(formatted(plain.text, plain.style), plain.style)
        else:
            with self.assertRaises(Faulty) as caught:
                keeper.take_over()
            self.assertEqual(caught.exception.faults, tuple(faults_of(plain.text)))

    def test_any_rows(self):
        for number in range(60):
            source = random.Random(number)
            text = source.choice((TEXT, "", "let", any_text(3400 + number, deep=1)[0]))
            style = source.choice((STYLE, OTHER, any_style(source)))
            keeper, plain = Keeper(text, style), PlainKeeper(text, style)
            for at in range(25):
                self.hold(keeper, plain)
                self.step(source, keeper, plain)
            self.hold(keeper, plain)
            while plain.states:
                keeper.undo()
                plain.come_to(*plain.states.pop())
                self.hold(keeper, plain)
            self.assertRaises(Nothing, keeper.undo)
            self.hold(keeper, plain)

    def test_twins_go_on_alone(self):
        for number in range(12):
            source = random.Random(3450 + number)
            pairs = [(Keeper(TEXT, STYLE), PlainKeeper(TEXT, STYLE))]
            for at in range(30):
                keeper, plain = source.choice(pairs)
                if at % 6 == 5:
                    other = PlainKeeper("", STYLE)
                    other.text, other.style, other.last = plain.text, plain.style, plain.last
                    other.states, other.known = list(plain.states), list(plain.known)
                    pairs.append((keeper.twin(), other))
                self.step(source, keeper, plain)
                for one, told_of in pairs:
                    self.hold(one, told_of)


class LaidOut(unittest.TestCase):
    def check(self, keeper, many):
        self.assertEqual(keeper.laid_out(), many)
        if not keeper.faults():
            self.assertEqual(keeper.formatted(), formatted(keeper.text(), keeper.style()))

    def test_the_same_statement_more_than_once(self):
        self.check(Keeper("a;a;a;\n\n\na;", STYLE), 1)
        self.check(Keeper("a;(a);# b\na;a; # b", STYLE), 2)
        self.check(Keeper("a;\n# b\na;\na;", STYLE), 2)
        self.check(Keeper("if a {b;c;}\nif a {b;\n\nc;}\nif a {b;\n\n\nc;}\nif a{\n\nb;c;\n\n}", STYLE), 3)

    def test_empty_lines(self):
        keeper = Keeper("a;b;", STYLE)
        for at, text in enumerate(("a;\n\nb;", "\n\na;\n\n\n\n\n\nb;", "a;\nb;\n\n")):
            keeper.change(change_between(keeper.text(), text))
            self.check(keeper, 2)
        # Those within a statement make another one, also if the style keeps none.
        keeper.restyle(OTHER)
        self.check(keeper, 4)
        keeper.change((0, len(keeper.text()), "if a { b; c; }"))
        self.check(keeper, 5)
        for at, text in enumerate(("if a { b;\n\nc; }", "if a { b;\n\n\nc; }", "if a { b;\n\n\n\nc; }")):
            keeper.change(change_between(keeper.text(), text))
            self.check(keeper, 6 + at)
        keeper.take_over()
        self.check(keeper, 8)
        self.assertEqual(keeper.text(), "if a {\n    b;\n    c;\n}\n")

    def test_the_end(self):
        keeper = Keeper("", STYLE)
        self.check(keeper, 0)
        for text, many in (("# a", 1), ("\n\n# a\n", 1), ("b;\n# a", 2), ("b;\n\n\n# a", 2), ("# a\n\nb;\n# a\n", 3), ("b;\n# a\n# c", 4),
                           ("b;\n# a\n\n\n# c", 4), ("b; # a", 5), ("b;", 5), ("# a\n# c", 5), ("<* a *>", 6)):
            keeper.change((0, len(keeper.text()), text))
            self.check(keeper, many)

    def test_styles_that_come_back(self):
        keeper = Keeper(TEXT, STYLE)
        for style, many in ((OTHER, 4), (STYLE, 4), (STYLE[:2] + (2,) + STYLE[3:], 6), (OTHER, 6), (STYLE, 6)):
            keeper.restyle(style)
            self.check(keeper, many)
        for _ in range(5):
            keeper.undo()
            self.check(keeper, 6)

    def test_faulty_states(self):
        keeper = Keeper("let", STYLE)
        self.check(keeper, 0)
        keeper.change((0, 0, "a; "))
        self.check(keeper, 0)
        keeper.restyle(OTHER)
        keeper.change((3, 6, "b;"))
        self.check(keeper, 2)
        keeper.change((0, 0, "("))
        self.check(keeper, 2)
        keeper.change((1, 1, "c); d; ("))
        self.check(keeper, 2)
        keeper.undo()
        keeper.undo()
        self.check(keeper, 2)

    def test_twins(self):
        keeper = Keeper(TEXT, STYLE)
        other = keeper.twin()
        other.change((0, 0, "a;"))
        self.check(other, 3)
        self.check(keeper, 2)
        keeper.change((0, 0, "b;"))
        self.check(keeper, 3)
        other.change((0, 2, "b;"))
        self.check(other, 4)


class LastFormatted(unittest.TestCase):
    def test_states(self):
        keeper = Keeper("let", STYLE)
        self.assertIsNone(keeper.last_formatted())
        keeper.restyle(OTHER)
        self.assertIsNone(keeper.last_formatted())
        keeper.change((0, 3, "a ;"))
        self.assertEqual(keeper.last_formatted(), "a;\n")
        keeper.change((0, 1, "("))
        self.assertEqual(keeper.last_formatted(), "a;\n")
        keeper.change((0, 1, "bb"))
        self.assertEqual(keeper.last_formatted(), "bb;\n")
        # A state that undo took back counts, and one that it leads back to comes anew.
        keeper.undo()
        self.assertEqual(keeper.last_formatted(), "bb;\n")
        keeper.undo()
        self.assertEqual(keeper.last_formatted(), "a;\n")
        keeper.undo()
        self.assertEqual([keeper.last_formatted(), keeper.text()], ["a;\n", "let"])
        keeper.undo()
        self.assertEqual([keeper.last_formatted(), keeper.twin().last_formatted()], ["a;\n", "a;\n"])
        self.assertRaises(Nothing, keeper.undo)

    def test_by_the_style_of_its_state(self):
        keeper = Keeper("if a{b;}", STYLE)
        keeper.change((0, 0, "("))
        keeper.restyle(OTHER)
        self.assertEqual(keeper.last_formatted(), "if a {\n  b;\n}\n")
        keeper.change((0, 1, ""))
        self.assertEqual(keeper.last_formatted(), "if a {\n    b;\n}\n")


class Errors(unittest.TestCase):
    def hold(self, kind, call, *arguments):
        """A call raises an error, and nothing has changed."""
        keeper = Keeper(TEXT, STYLE)
        keeper.change((0, 0, "# a\n"))
        before = told(keeper)
        with self.assertRaises(kind) as caught:
            getattr(keeper, call)(*arguments)
        self.assertEqual(told(keeper), before)
        keeper.undo()
        self.assertEqual(keeper.text(), TEXT)
        self.assertRaises(Nothing, keeper.undo)
        return caught.exception

    def test_wrong_ones_to_begin_with(self):
        for thing in NO_TEXTS:
            for style in (STYLE, None):
                with self.assertRaises(Wrong) as caught:
                    Keeper(thing, style)
                self.assertEqual(caught.exception.place, 0)
        for thing in NO_STYLES + (Keeper("", STYLE),):
            for text in ("", "let", TEXT):
                with self.assertRaises(Wrong) as caught:
                    Keeper(text, thing)
                self.assertEqual(caught.exception.place, 1)
        with self.assertRaises(Wrong):
            Keeper(Keeper("", STYLE), STYLE)

    def test_wrong_changes_and_styles(self):
        for thing in NO_CHANGES:
            self.assertEqual(self.hold(Wrong, "change", thing).place, 0)
        for thing in NO_STYLES:
            self.assertEqual(self.hold(Wrong, "restyle", thing).place, 0)

    def test_no_change(self):
        size = len(TEXT) + 4
        for change in ((0, size + 1, ""), (size + 1, size + 1, "a"), (3, 10 ** 30, "")):
            self.assertIs(self.hold(NoChange, "change", change).change, change)

    def test_faulty(self):
        keeper = Keeper("let 1; f(a b);", STYLE)
        for call in (keeper.formatted, keeper.take_over):
            with self.assertRaises(Faulty) as caught:
                call()
            self.assertEqual(caught.exception.faults, (((0, 4), "name"), ((0, 11), ")")))
        self.assertRaises(Nothing, keeper.undo)
        self.assertEqual(keeper.faults(), (((0, 4), "name"), ((0, 11), ")")))

    def test_calls_that_change_nothing_are_taken_back_too(self):
        keeper = Keeper("a;\n", STYLE)
        self.assertEqual([keeper.take_over(), keeper.change((0, 0, "")), keeper.restyle(STYLE)], [None] * 3)
        self.assertEqual([keeper.undo() for _ in range(3)], [None] * 3)
        self.assertRaises(Nothing, keeper.undo)


class Equality(unittest.TestCase):
    def test_keepers(self):
        keeper = Keeper(TEXT, STYLE)
        self.assertIs(keeper == Keeper(TEXT, STYLE), True)
        self.assertIs(keeper != Keeper(TEXT, STYLE), False)
        self.assertIs(keeper == keeper.twin(), True)
        self.assertIs(keeper == Keeper(TEXT + " ", STYLE), False)
        self.assertIs(keeper == Keeper(TEXT, OTHER), False)
        keeper.change((0, 0, " "))
        self.assertIs(keeper == Keeper(TEXT, STYLE), False)
        self.assertIs(keeper == Keeper(" " + TEXT, STYLE), True)
        keeper.undo()
        self.assertIs(keeper == Keeper(TEXT, STYLE), True)
        self.assertIs(Keeper("let", STYLE) == Keeper("let", STYLE), True)

    def test_any_value(self):
        keeper = Keeper("", STYLE)
        for thing in OTHERS + STRANGE + (("", STYLE), "", STYLE, Keeper):
            self.assertIs(keeper == thing, False)
            self.assertIs(thing == keeper, False)


if __name__ == "__main__":
    unittest.main()
