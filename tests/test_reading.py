"""Point 16: reading, and its faults."""

import random
import unittest

from leastlaid.cutting import cut
from leastlaid.errors import Faulty, Wrong
from leastlaid.reading import faults_of, read_program, read_row
from leastlaid.rows import plain_text
from leastlaid.trees import is_program
from tests import plain, samples
from tests.samples import A, B, ONE
from tests.values import OTHERS, STRANGE

C, D = ("name", "c"), ("name", "d")


def two(operator, left, right):
    return ("two", operator, left, right)


def value_of(text):
    """The tree of the expression that a text is."""
    (statement,) = read_program(text + ";")
    assert statement[0] == "do"
    return statement[1]


# Texts with the FAULTS of reading, each with its index and what is wanted.
FAULTS = (
    # statement
    (";", [(0, "statement")]), ("= a;", [(0, "statement")]), ("else { }", [(0, "statement")]), ("in;", [(0, "statement")]),
    ("a;;", [(2, "statement")]), ("a; .", [(3, "statement")]), (", a", [(0, "statement")]), ("-> a;", [(0, "statement")]),
    ("and a;", [(0, "statement")]), ("* a;", [(0, "statement")]), (": a;", [(0, "statement")]), ("< a;", [(0, "statement")]),
    ("if a { ; }", [(7, "statement")]), ("if a { b; : }", [(10, "statement")]), ("if a { else }", [(7, "statement")]),
    ("{ };;", [(4, "statement")]), ("if a { } ;", [(9, "statement")]), ("if a { } else { } else { }", [(18, "statement")]),
    # expression
    ("let a = ;", [(8, "expression")]), ("let a =", [(7, "expression")]), ("set a =\n\n", [(9, "expression")]),
    ("if { }", [(6, "{")]), ("if", [(2, "expression")]), ("if ;", [(3, "expression")]), ("while", [(5, "expression")]),
    ("for a in", [(8, "expression")]), ("for a in ;", [(9, "expression")]), ("a +", [(3, "expression")]),
    ("a + ;", [(4, "expression")]), ("- ;", [(2, "expression")]), ("-", [(1, "expression")]), ("not", [(3, "expression")]),
    ("not ;", [(4, "expression")]), ("();", [(1, "expression")]), ("a[];", [(2, "expression")]),
    ("[a,];", [(3, "expression")]), ("[a,,b];", [(3, "expression")]), ("f(a,);", [(4, "expression")]),
    ("{a:};", [(3, "expression")]), ("{a:b,};", [(5, "expression")]), ("{a: ;};", [(4, "expression"), (5, "statement")]),
    ("fn() ->", [(7, "expression")]), ("fn() -> ;", [(8, "expression")]), ("a or", [(4, "expression")]),
    ("a == not b;", [(5, "expression")]), ("a + not b;", [(4, "expression")]), ("- not b;", [(2, "expression")]),
    ("a ^ not b;", [(4, "expression")]), ("a < not b;", [(4, "expression")]), ("a * not b;", [(4, "expression")]),
    ("(+ a);", [(1, "expression")]), ("a = b;", [(2, ";")]), ("let a = = b;", [(8, "expression")]),
    ("let a = else;", [(8, "expression")]), ("let a = in;", [(8, "expression")]), ("a and or b;", [(6, "expression")]),
    # name
    ("let", [(3, "name")]), ("let ;", [(4, "name")]), ("let 1 = a;", [(4, "name")]), ("let in = a;", [(4, "name")]),
    ("let fn = a;", [(4, "name")]), ('let "a" = a;', [(4, "name")]), ("set", [(3, "name")]), ("set true = a;", [(4, "name")]),
    ("for", [(3, "name")]), ("for 1 in a { }", [(4, "name")]), ("for (a) in b { }", [(4, "name")]), ("def", [(3, "name")]),
    ("def () { }", [(4, "name")]), ("def fn() { }", [(4, "name")]), ("a.", [(2, "name")]), ("a.;", [(2, "name")]),
    ("a.1;", [(2, "name")]), ("a.in;", [(2, "name")]), ("a.(b);", [(2, "name")]), ("def f(a,) { }", [(8, "name")]),
    ("def f(a, 1) { }", [(9, "name")]), ("fn(a,) -> b;", [(5, "name")]), ("fn(a, in) -> b;", [(6, "name")]),
    ("fn(a,,) -> b;", [(5, "name")]),
    # the sign that ends a statement
    ("let a = b", [(9, ";")]), ("set a = b c;", [(10, ";")]), ("give", [(4, ";")]),
    ("give =;", [(5, ";")]), ("give a", [(6, ";")]), ("give a b;", [(7, ";")]), ("a", [(1, ";")]), ("a b;", [(2, ";")]),
    ("a { }", [(2, ";")]), ("a\n", [(2, ";")]), ("f(a) b;", [(5, ";")]), ("a < b < c;", [(6, ";")]),
    ("a == b != c;", [(7, ";")]), ("not a < b < c;", [(10, ";")]), ("fn() -> a < b < c;", [(14, ";")]),
    ("a + fn() -> b < c < d;", [(18, ";")]), ("a; b", [(4, ";")]), ("a : b;", [(2, ";")]),
    ("a, b;", [(1, ";")]), ("a -> b;", [(2, ";")]), ("a in b;", [(2, ";")]), ("a not b;", [(2, ";")]),
    ("not fn() -> a == b == c;", [(19, ";")]), ("a or b < c + d < a;", [(15, ";")]), ("a else;", [(2, ";")]),
    ("a # b\n\n# c", [(10, ";")]), ("if a { b }", [(9, ";")]), ("if a { give }", [(12, ";")]),
    ("if a { let b = c }", [(17, ";")]), ("if a { b c }", [(9, ";")]), ("1 a;", [(2, ";")]), ("a 1.5;", [(2, ";")]),
    # the bracket that opens a block
    ("if a", [(4, "{")]), ("if a;", [(4, "{")]), ("if a b { c }", [(5, "{")]), ("while a", [(7, "{")]),
    ("while a b { }", [(8, "{")]), ("for a in b", [(10, "{")]), ("for a in b c { }", [(11, "{")]), ("def f()", [(7, "{")]),
    ("def f() a;", [(8, "{")]), ("def f(a) ()", [(9, "{")]), ("if a { } else", [(13, "{")]),
    ("if a { } else b;", [(14, "{")]), ("if a { } else while b { }", [(14, "{")]), ("if a { } else if b", [(18, "{")]),
    ("if a < b < c { }", [(9, "{")]), ("while fn() -> a < b < c { }", [(20, "{")]), ("if a: b;", [(4, "{")]),
    # the sign that closes
    ("(a b);", [(3, ")")]), ("(a, b);", [(2, ")")]), ("(a;);", [(2, ")"), (3, "statement")]), ("(a < b < c);", [(7, ")")]),
    ("(fn() -> a < b < c);", [(15, ")")]), ("a[b c];", [(4, "]")]), ("a[b, c];", [(3, "]")]), ("a[b: c];", [(3, "]")]),
    ("[a b];", [(3, "]")]), ("[a: b];", [(2, "]")]), ("[a < b < c];", [(7, "]")]), ("f(a b);", [(4, ")")]),
    ("f(a: b);", [(3, ")")]), ("f(a = b);", [(4, ")")]), ("{a: b c};", [(6, "}")]), ("{a: b: c};", [(5, "}")]),
    ("{a: b < c < d};", [(10, "}")]), ("fn(a b) -> c;", [(5, ")")]), ("def f(a b) { }", [(8, ")")]),
    ("def f(a: b) { }", [(7, ")")]), ("def f(a.b) { }", [(7, ")")]), ("def f((a)) { }", [(6, ")")]),
    # behind a bracket that opens a list of any sort, the one that closes it
    ("[,];", [(1, "]")]), ("[=];", [(1, "]")]), ("[else];", [(1, "]")]), ("f(,);", [(2, ")")]), ("f(+ a);", [(2, ")")]),
    ("f(;);", [(2, ")"), (3, "statement")]), ("({,});", [(2, "}")]), ("({:});", [(2, "}")]), ("def f(,) { }", [(6, ")")]),
    ("def f(1) { }", [(6, ")")]), ("def f(in) { }", [(6, ")")]), ("fn(1) -> a;", [(3, ")")]), ("fn(fn) -> a;", [(3, ")")]),
    ("[in a];", [(1, "]")]), ("f(. a);", [(2, ")")]), ("{ = };", [(2, "}")]),
    # behind a key
    ("{a};", [(2, ":")]), ("{a, b};", [(2, ":")]), ("{a b};", [(3, ":")]), ("{a: b, c};", [(8, ":")]),
    ("{a < b < c: d};", [(7, ":")]), ("{fn() -> a < b < c: d};", [(15, ":")]), ("{a = b};", [(3, ":")]),
    # other words that have to stand there
    ("let a", [(5, "=")]), ("let a b;", [(6, "=")]), ("let a;", [(5, "=")]), ("set a.b = c;", [(5, "=")]),
    ("set a == b;", [(6, "=")]), ("set a", [(5, "=")]), ("set a[b] = c;", [(5, "=")]), ("for a", [(5, "in")]),
    ("for a = b;", [(6, "in")]), ("for a, b in c { }", [(5, "in")]), ("fn()", [(4, "->")]), ("fn() a;", [(5, "->")]),
    ("fn() - > a;", [(5, "->")]), ("fn(a) { };", [(6, "->")]), ("fn", [(2, "(")]), ("fn a -> b;", [(3, "(")]),
    ("fn [a] -> b;", [(3, "(")]), ("def f", [(5, "(")]), ("def f { }", [(6, "(")]), ("def f = a;", [(6, "(")]),
)
# Texts with the FAULTS of reading where more than one may come.
RECOVERED = (
    ("let 1 = 2; f(a b); give", [(4, "name"), (15, ")"), (23, ";")]),
    ("a b; c d; e;", [(2, ";"), (7, ";")]),
    # The faulty word is the first that is looked at.
    ("let let a = 1;", [(4, "name")]), ("let a = let b = 1;", [(8, "expression")]), ("let ; a b;", [(4, "name"), (8, ";")]),
    ("let a = if b { };", [(8, "expression"), (16, "statement")]), ("a set b c;", [(2, ";"), (8, "=")]),
    ("a give b give", [(2, ";"), (9, ";"), (13, ";")]), ("if while a { }", [(3, "expression")]), ("a def", [(2, ";"), (5, "name")]),
    ("a for", [(2, ";"), (5, "name")]), ("a while", [(2, ";"), (7, "expression")]), ("a if", [(2, ";"), (4, "expression")]),
    ("a let", [(2, ";"), (5, "name")]), ("a set", [(2, ";"), (5, "name")]),
    # These words begin no statement.
    ("a else b c d;", [(2, ";")]), ("a b in c fn d not true false none and or; ;", [(2, ";"), (42, "statement")]),
    # Pairs behind the faulty word, or that begin with it, are passed over whole.
    ("let (a; b) = c;", [(4, "name")]), ("let a (b; c d) [e; f g] { h; let; } i; j k;", [(6, "="), (41, ";")]),
    ("a b { let c; d e; } f; ;", [(2, ";"), (23, "statement")]), ("if a b { c } else { d; e f; } g;", [(5, "{")]),
    ("a { b; c d; } e; f g;", [(2, ";"), (19, ";")]), ("give 1 { a; }", [(7, ";")]), ("f(a b, g(c; d), e);", [(4, ")")]),
    ("a [let] let b;", [(3, "expression"), (6, "name"), (13, "=")]),
    # The closing bracket of a pair that holds the faulty word is passed over.
    ("f(a b); c d;", [(4, ")"), (10, ";")]), ("f([a b], c) d; e f;", [(5, "]"), (17, ";")]), ("((a b)); c", [(4, ")"), (10, ";")]),
    ("f(a b) { c; d e; } g; ;", [(4, ")"), (22, "statement")]), ("{a b}; c d;", [(3, ":"), (9, ";")]),
    ("f(a b) let c = d e;", [(4, ")"), (17, ";")]), ("def f(1; a) { b; } c d;", [(6, ")"), (10, ";")]),
    # A statement can begin at it behind a semicolon.
    ("f(a b;); c d;", [(4, ")"), (6, "statement"), (11, ";")]), ("f(a b; c); d e;", [(4, ")"), (8, ";"), (13, ";")]),
    ("f(a b; c;); d e;", [(4, ")"), (9, "statement"), (14, ";")]), ("f(a b; c;) d; e f;", [(4, ")"), (9, "statement"), (16, ";")]),
    ("[a b; c d; e]; f g;", [(3, "]"), (8, ";"), (12, ";"), (17, ";")]), ("((a b;);); c d;", [(4, ")"), (6, "statement"), (8, "statement"), (13, ";")]),
    ("f(a let b = 1; c);", [(4, ")"), (16, ";")]), ("f(a b; if c { });", [(4, ")"), (15, "statement")]),
    ("let x = { let y = 1; };", [(10, "}"), (21, "statement")]), ("{a b; };", [(3, ":"), (6, "statement")]),
    # A bracket that closes the block ends it, others do not.
    ("if a { b c } d e;", [(9, ";"), (15, ";")]), ("if a { give b c } else { d e } f g;", [(14, ";"), (27, ";"), (33, ";")]),
    ("if a { {b c; } ; } d e;", [(10, ":"), (13, "statement"), (21, ";")]),
    ("if a { let x = { let y = 1; }; } b c;", [(17, "}"), (28, "statement"), (35, ";")]),
    ("if a { f(b c; ) } d e;", [(11, ")"), (14, "statement"), (20, ";")]),
    ("while a { let } b c;", [(14, "name"), (18, ";")]),
    ("for a in b { if c { d e } f g } h i;", [(22, ";"), (28, ";"), (34, ";")]),
    ("def f(a) { while b { c d; e f; } g h; } i j;", [(23, ";"), (28, ";"), (35, ";"), (42, ";")]),
    ("if a { = } b c;", [(7, "statement"), (13, ";")]), ("if a { b; } else c { d e; } f g;", [(17, "{")]),
    ("if a { if b c { d e; } f g; } h i;", [(12, "{"), (32, ";")]),
    ("if a { let 1 } else if b { let 2 } else { let 3 } let 4", [(11, "name"), (31, "name"), (46, "name"), (54, "name")]),
    # The faulty statement stands in the block around it, if its head is at fault.
    ("while a { while b c { d e; } f g; } h i;", [(18, "{"), (38, ";")]),
    ("if a { for b c { d; } } e f;", [(13, "in"), (26, ";")]),
    # Over several lines, with comments.
    ("let a\n# b ;\n1;\n<* ; *> c d;", [(12, "="), (25, ";")]),
)


class Faults(unittest.TestCase):
    def check(self, text, faults):
        expected = [(plain.place(text, index), wanted) for index, wanted in faults]
        self.assertEqual(faults_of(text), expected, text)
        with self.assertRaises(Faulty) as caught:
            read_program(text)
        self.assertEqual(caught.exception.faults, tuple(expected))

    def test_each_fault(self):
        for text, faults in FAULTS:
            self.check(text, faults)
            self.check("let z = a;\n" + text, [(index + 11, wanted) for index, wanted in faults])

    def test_each_fault_in_a_block(self):
        for text, faults in FAULTS:
            # At the end of a text the block would end instead.
            if faults[-1][0] < len(text):
                around = "if z {\n" + text + "\n} y x;"
                self.check(around, [(i + 7, wanted) for i, wanted in faults] + [(len(text) + 12, ";")])

    def test_recovered(self):
        for text, faults in RECOVERED:
            self.check(text, faults)

    def test_all_wanted(self):
        """Each thing that can be wanted is, alone, amid a text and, if it can be there, at its end."""
        alone = {faults[0][1] for text, faults in FAULTS if len(faults) == 1 and faults[0][0] < len(text)}
        at_end = {faults[0][1] for text, faults in FAULTS if len(faults) == 1 and faults[0][0] == len(text)}
        words = {"statement", "expression", "name", ";", "{", ")", "]", "}", ":", "=", "in", "->", "("}
        self.assertEqual(alone, words)
        self.assertEqual(at_end, words - {"statement", ")", "]", "}", ":"})

    def test_the_end_of_a_block(self):
        self.check("if a { b }", [(9, ";")])
        self.check("if a { b } else { c }", [(9, ";"), (20, ";")])
        self.check("if a { give } b", [(12, ";"), (15, ";")])
        self.check("if a { if b } c d;", [(12, "{"), (16, ";")])

    def test_faults_of_cutting_come_alone(self):
        self.check("let ! ( 1", [(4, "sign")])
        self.check('a b ) "c', [(6, "quote")])
        self.check("( ''' )", [(2, "raw")])
        self.check("a ]; <* b", [(5, "block")])
        self.check("! let\n ? \"", [(0, "sign"), (7, "sign"), (9, "quote")])

    def test_faults_of_brackets_come_alone(self):
        self.check("let 1; (", [(7, "open")])
        self.check("a b ) c d ( [ }", [(4, "close"), (10, "open"), (12, "open"), (14, "close")])
        self.check("give }", [(5, "close")])
        self.check("give )", [(5, "close")])
        self.check("if a { b c", [(5, "open")])
        self.check("let # )\n <* ( *> ]", [(17, "close")])

    def test_brackets_in_comments_are_none(self):
        self.check("let # (\n<* ] *>", [(15, "name")])
        self.assertEqual(faults_of("a # (\n; <* } *> b; # {"), [])

    def test_the_list_is_the_callers(self):
        for text, faults in (("let", [((0, 3), "name")]), ("a;", []), ("!", [((0, 0), "sign")]), ("(", [((0, 0), "open")])):
            found = faults_of(text)
            self.assertIs(type(found), list)
            found.append("more")
            self.assertEqual(faults_of(text), faults)

    def test_any_words(self):
        for seed in range(4000):
            source = random.Random(seed)
            text = source.choice((" ", "\n")).join(samples.paired_words(source, source.randrange(1, 25)))
            program, faults = plain.read(text)
            self.assertEqual(faults_of(text), faults, text)
            if not faults:
                self.assertEqual(read_program(text), program)

    def test_programs_with_a_word_otherwise(self):
        source = random.Random(16)
        others = [word for word in samples.WORDS if word not in ("(", "[", "{", "}", "]", ")")]
        for program in samples.programs(16, 800):
            words = [token[1] for token in cut(plain_text(program))[0]]
            for _ in range(4):
                at = source.randrange(len(words) + 1)
                is_bracket = at < len(words) and words[at] in "()[]{}"
                behind = words[at:] if is_bracket or source.random() < 0.5 else words[at + 1:]
                text = "\n ".join(words[:at] + source.choices(others, k=source.randrange(2)) + behind)
                read, faults = plain.read(text)
                self.assertEqual(faults_of(text), faults, text)
                if not faults:
                    self.assertEqual(read_program(text), read)


class Wrongs(unittest.TestCase):
    def test_no_text(self):
        for thing in OTHERS + STRANGE + ("a;\t", b"a;", ["a;"], ("a;",)):
            for function in (faults_of, read_program):
                with self.assertRaises(Wrong) as caught:
                    function(thing)
                self.assertEqual(caught.exception.place, 0)
                self.assertIs(type(caught.exception.place), int)

    def test_wrong_comes_first(self):
        with self.assertRaises(Wrong):
            read_program("let \t")


class Programs(unittest.TestCase):
    def test_nothing(self):
        for text in ("", " \n ", "# a", "<* a\n *>\n# b  "):
            self.assertEqual(faults_of(text), [])
            self.assertEqual(read_program(text), ())

    def test_statements(self):
        for text, statement in (
                ("let a = b;", ("let", "a", B)), ("set a = b;", ("set", "a", B)), ("give;", ("give", None)),
                ("give a;", ("give", A)), ("give - a;", ("give", ("minus", A))), ("a;", ("do", A)),
                ("if a { }", ("if", A, (), None)), ("if a { b; }", ("if", A, (("do", B),), None)),
                ("if a { } else { }", ("if", A, (), ())), ("if a { } else { b; }", ("if", A, (), (("do", B),))),
                ("if a { } else if b { }", ("if", A, (), ("if", B, (), None))),
                ("if a { } else if b { } else { a; }", ("if", A, (), ("if", B, (), (("do", A),)))),
                ("while a { b; a; }", ("while", A, (("do", B), ("do", A)))), ("while a { }", ("while", A, ())),
                ("for a in b { }", ("for", "a", B, ())), ("for a in b { give; }", ("for", "a", B, (("give", None),))),
                ("def f() { }", ("def", "f", (), ())), ("def f(a) { a; }", ("def", "f", ("a",), (("do", A),))),
                ("def f(a, b, a) { }", ("def", "f", ("a", "b", "a"), ())), ("{ };", ("do", ("map", ()))),
                ("if { } { }", ("if", ("map", ()), (), None)), ("[ ];", ("do", ("list", ()))), ("(a);", ("do", A)),
                ("-a;", ("do", ("minus", A))), ("not a;", ("do", ("not", A))), ("true;", ("do", ("word", "true"))),
                ("fn() -> a;", ("do", ("fn", (), A))), ('"a";', ("do", ("quote", '"a"')))):
            self.assertEqual(faults_of(text), [], text)
            self.assertEqual(read_program(text), (statement,))
            self.assertEqual(read_program(text + "\n" + text), (statement, statement))
            self.assertEqual(read_program("while a {" + text + text + "}"), (("while", A, (statement, statement)),))

    def test_if_in_if(self):
        text = "if a { if b { } } else { if a { } else { } }"
        inner = ("if", B, (), None), ("if", A, (), ())
        self.assertEqual(read_program(text), (("if", A, inner[:1], inner[1:]),))
        self.assertEqual(read_program("if a { } if b { }"), (("if", A, (), None), ("if", B, (), None)))

    def test_singles(self):
        for tree in samples.SINGLES + (("name", "_"), ("number", "007"), ("raw", "''''''"), ("quote", '"\\\\"')):
            self.assertEqual(value_of(tree[1]), tree)
            self.assertEqual(value_of("((" + tree[1] + "))"), tree)

    def test_brackets(self):
        for text, tree in (
                ("[]", ("list", ())), ("[a]", ("list", (A,))), ("[a, b]", ("list", (A, B))), ("{}", ("map", ())),
                ("({})", ("map", ())), ("{a: b}", ("map", ((A, B),))), ("{a: b, 1: a}", ("map", ((A, B), (ONE, A)))),
                ("{(a): [b]}", ("map", ((A, ("list", (B,))),))), ("fn() -> a", ("fn", (), A)),
                ("fn(x) -> a", ("fn", ("x",), A)), ("fn(x, y) -> a", ("fn", ("x", "y"), A)),
                ("a()", ("call", A, ())), ("a(b)", ("call", A, (B,))), ("a(b, 1)", ("call", A, (B, ONE))),
                ("a((b))", ("call", A, (B,))), ("a[b]", ("index", A, B)), ("a.b", ("field", A, "b")),
                ("a.b.c", ("field", ("field", A, "b"), "c")), ("a(b)[c]", ("index", ("call", A, (B,)), C)),
                ("a[b](c)", ("call", ("index", A, B), (C,))), ("a.b(c)", ("call", ("field", A, "b"), (C,))),
                ("1.5.a", ("field", ("number", "1.5"), "a")), ("1.a", ("field", ONE, "a")),
                ('"a".b', ("field", ("quote", '"a"'), "b")), ("[a][b]", ("index", ("list", (A,)), B)),
                ("{}.a", ("field", ("map", ()), "a")), ("(a + b).c", ("field", two("+", A, B), "c")),
                ("(fn() -> a)()", ("call", ("fn", (), A), ())), ("[fn() -> a, b]", ("list", (("fn", (), A), B))),
                ("{fn() -> a: fn() -> b}", ("map", ((("fn", (), A), ("fn", (), B)),)))):
            self.assertEqual(value_of(text), tree, text)

    def test_levels(self):
        for text, tree in (
                ("a or b or c", two("or", two("or", A, B), C)), ("a and b and c", two("and", two("and", A, B), C)),
                ("a - b - c", two("-", two("-", A, B), C)), ("a + b - c", two("-", two("+", A, B), C)),
                ("a / b * c", two("*", two("/", A, B), C)), ("a ^ b ^ c", two("^", A, two("^", B, C))),
                ("a or b and c", two("or", A, two("and", B, C))), ("a and b or c", two("or", two("and", A, B), C)),
                ("a and b == c", two("and", A, two("==", B, C))), ("a == b and c", two("and", two("==", A, B), C)),
                ("a < b + c", two("<", A, two("+", B, C))), ("a + b < c", two("<", two("+", A, B), C)),
                ("a + b * c", two("+", A, two("*", B, C))), ("a * b + c", two("+", two("*", A, B), C)),
                ("a * b ^ c", two("*", A, two("^", B, C))), ("a ^ b * c", two("*", two("^", A, B), C)),
                ("(a or b) and c", two("and", two("or", A, B), C)), ("a - (b - c)", two("-", A, two("-", B, C))),
                ("(a ^ b) ^ c", two("^", two("^", A, B), C)), ("(a < b) < c", two("<", two("<", A, B), C)),
                ("a < (b < c)", two("<", A, two("<", B, C))),
                ("a < b and b < c", two("and", two("<", A, B), two("<", B, C))),
                ("a or b < c or d", two("or", two("or", A, two("<", B, C)), D))):
            self.assertEqual(value_of(text), tree, text)

    def test_operators_ahead(self):
        for text, tree in (
                ("not a and b", two("and", ("not", A), B)), ("not a or b", two("or", ("not", A), B)),
                ("not a == b", ("not", two("==", A, B))), ("not a + b", ("not", two("+", A, B))),
                ("not not a", ("not", ("not", A))), ("not - a", ("not", ("minus", A))),
                ("a and not b", two("and", A, ("not", B))), ("a or not b and c", two("or", A, two("and", ("not", B), C))),
                ("a and not b or c", two("or", two("and", A, ("not", B)), C)), ("a == (not b)", two("==", A, ("not", B))),
                ("- (not a)", ("minus", ("not", A))), ("(not a) == b", two("==", ("not", A), B)),
                ("-a + b", two("+", ("minus", A), B)), ("-a * b", two("*", ("minus", A), B)),
                ("-a ^ b", ("minus", two("^", A, B))), ("(-a) ^ b", two("^", ("minus", A), B)),
                ("a ^ -b", two("^", A, ("minus", B))), ("a ^ -b ^ c", two("^", A, ("minus", two("^", B, C)))),
                ("a ^ -b * c", two("*", two("^", A, ("minus", B)), C)), ("a * -b", two("*", A, ("minus", B))),
                ("a - -b", two("-", A, ("minus", B))), ("- - a", ("minus", ("minus", A))),
                ("a * -b * c", two("*", two("*", A, ("minus", B)), C)), ("-a.b", ("minus", ("field", A, "b"))),
                ("-a(b)", ("minus", ("call", A, (B,)))), ("(-a).b", ("field", ("minus", A), "b")),
                ("not a.b", ("not", ("field", A, "b"))), ("a < -b", two("<", A, ("minus", B)))):
            self.assertEqual(value_of(text), tree, text)

    def test_each_operator(self):
        for operator in samples.OPERATORS:
            self.assertEqual(value_of("a " + operator + " b"), two(operator, A, B))
            tree = two(operator, ("field", A, "b"), ("index", B, A))
            self.assertEqual(value_of("a.b " + operator + " b[a]"), tree)

    def test_fn(self):
        def fn(body):
            return ("fn", ("x",), body)

        for text, tree in (
                ("fn(x) -> a + b", fn(two("+", A, B))), ("fn(x) -> a or b", fn(two("or", A, B))),
                ("fn(x) -> a(b)", fn(("call", A, (B,)))), ("fn(x) -> not a", fn(("not", A))),
                ("fn(x) -> fn(x) -> a", fn(fn(A))), ("a + fn(x) -> b * c", two("+", A, fn(two("*", B, C)))),
                ("a < fn(x) -> b < c", two("<", A, fn(two("<", B, C)))), ("-fn(x) -> a", ("minus", fn(A))),
                ("not fn(x) -> a and b", ("not", fn(two("and", A, B)))), ("(fn(x) -> a) + b", two("+", fn(A), B)),
                ("(fn(x) -> a)(b)", ("call", fn(A), (B,))), ("(fn(x) -> a).b", ("field", fn(A), "b")),
                ("(fn(x) -> a)[b]", ("index", fn(A), B)), ("(fn(x) -> a < b) < c", two("<", fn(two("<", A, B)), C)),
                ("(a * fn(x) -> a) + b", two("+", two("*", A, fn(A)), B)),
                ("a * (fn(x) -> a) + b", two("+", two("*", A, fn(A)), B)),
                ("(fn(x) -> (a)) + b", two("+", fn(A), B)), ("fn(x) -> (a) + b", fn(two("+", A, B))),
                ("a(fn(x) -> b < c)", ("call", A, (fn(two("<", B, C)),)))):
            self.assertEqual(value_of(text), tree, text)

    def test_programs_are_trees(self):
        for program in samples.programs(17, 300):
            read = read_program(plain_text(program))
            self.assertIs(is_program(read), True)
            self.assertEqual(read, program)

    def test_read_row(self):
        self.assertEqual(read_row(()), ())
        self.assertEqual(read_row(("a", ";")), (("do", A),))
        self.assertEqual(read_row(("give", "a", ";")), (("give", A),))
        self.assertEqual(read_row(("(", "a", ")", ";")), (("do", A),))
        self.assertEqual(read_row(("let", "a", "=", "'''\n'''", ";")), (("let", "a", ("raw", "'''\n'''")),))
        self.assertEqual(read_row(("a", "-", "1", ";", '"b"', ";")), (("do", two("-", A, ONE)), ("do", ("quote", '"b"'))))
        for words in (("a",), (";",), ("a", "b", ";"), ("(", ";"), (")",), ("if", "a", "{"), ("let", "a", "==", "b", ";"),
                      ("if", "a", "{", "}", "}"), ("a", ".", "5", ";"), ("<", "a", ";"), ("(", "a", "]", ";"),
                      ("let", "a", "=", ";"), ("give", "a"), ("if", "a", "{", "b", "}")):
            self.assertIsNone(read_row(words), words)

    def test_read_row_puts_no_words_together(self):
        for words in (("1", "2", ";"), ("a", "b", ";"), ("a", "=", "=", "b", ";"), ("a", "<", "*", "b", ";")):
            self.assertIsNone(read_row(words), words)
        self.assertEqual(read_row(("a", "<", "-", "b", ";")), (("do", two("<", A, ("minus", B))),))


class Bounds(unittest.TestCase):
    def test_twenty_deep(self):
        for opening, closing in (("(", ")"), ("[", "]"), ("a(", ")"), ("a[", "]"), ("{a: ", "}"), ("-", ""), ("not ", ""),
                                 ("fn() -> ", ""), ("a ^ ", "")):
            text = opening * 20 + "a" + closing * 20 + ";"
            self.assertEqual(faults_of(text), [])
            self.assertEqual(read_program(text), plain.read(text)[0])
        for opening in ("if a {", "while a {", "for a in b {", "def f() {", "if a { } else {"):
            text = opening * 20 + "a;" + "}" * 20
            self.assertEqual(read_program(text), plain.read(text)[0])
            broken = opening * 20 + "a" + "}" * 20
            self.assertEqual(faults_of(broken), [(plain.place(broken, len(opening) * 20 + 1), ";")])

    def test_a_hundred_items(self):
        for text in ("[" + "a, " * 99 + "a];", "f(" + "a, " * 99 + "a);", "{" + "a: b, " * 99 + "a: b};",
                     "fn(" + "a, " * 99 + "a) -> b;", "def f(" + "a, " * 99 + "a) { }", "if a {" + "b; " * 100 + "}"):
            self.assertEqual(read_program(text), plain.read(text)[0])
            for broken in (text.replace(", a", " a", 1), text.replace(", a", ",", 1), text.replace("; b", " b", 1)):
                self.assertEqual(faults_of(broken), plain.read(broken)[1])

    def test_four_thousand_signs(self):
        self.assertEqual(len(read_program("a;" * 2000)), 2000)
        self.assertEqual(len(faults_of(";" * 4000)), 4000)
        self.assertEqual(len(faults_of("a b;" * 1000)), 1000)
        self.assertEqual(len(faults_of("!" * 4000)), 4000)
        self.assertEqual(len(faults_of("(" * 4000)), 4000)
        self.assertEqual(read_program("a" * 3999 + ";"), (("do", ("name", "a" * 3999)),))
        self.assertEqual(read_program("# " + "\"" * 3998), ())

    def test_beyond_all_depths(self):
        """What is deeper than calls may be is read, too: a text is any string of signs."""
        self.assertEqual(faults_of("(" * 1999 + "a" + ")" * 1999 + ";"), [])
        self.assertEqual(faults_of("(" * 2000 + ")" * 2000), [((0, 2000), "expression")])
        self.assertEqual(faults_of("-" * 3998 + "a"), [((0, 3999), ";")])
        self.assertEqual(faults_of("if a {" * 571 + "}" * 571), [])
        self.assertEqual(faults_of("a" + "[a" * 1300 + "]" * 1300), [((0, 3901), ";")])
        self.assertEqual(faults_of("a+" * 1999 + "a;"), [])
        self.assertEqual(faults_of("if a {}" + "else if a {}" * 332), [])
        self.assertEqual(read_row(("(",) * 1500 + ("a",) + (")",) * 1500 + (";",)), (("do", A),))


if __name__ == "__main__":
    unittest.main()
