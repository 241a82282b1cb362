"""Points 5 and 17: rows, words with grouping brackets, spans of statements."""

import unittest

from leastlaid.reading import faults_of, read_program, read_row
from leastlaid.rows import plain_text, row_of, statement_spans, words_of
from leastlaid.trees import ends_in_fn, operands, statements_in, wants_brackets
from tests import plain, samples
from tests.samples import A, B, ONE

FN = ("fn", ("x",), ("name", "x"))


def two(operator, left, right):
    return ("two", operator, left, right)


def text_of(tree):
    return plain_text((("do", tree),))


def words_alone(program):
    return [word for word, _ in words_of(program)]


def couples(words):
    """The couples of places of grouping brackets among the words of words_of."""
    found, still = [], []
    for at, (word, index) in enumerate(words):
        if index is None and word == "(":
            still.append(at)
        elif index is None:
            found.append((still.pop(), at))
    return found


def with_more(words, begin, end, many):
    """The words of words_of with some couples more, directly round those of the row from one index up to another."""
    at = {index: place for place, (_, index) in enumerate(words) if index is not None}
    first, last = at[begin], at[end - 1]
    for opened, closed in couples(words)[::-1]:
        inside = [index for _, index in words[opened:closed] if index is not None]
        if begin <= inside[0] and inside[-1] < end:
            first, last = min(first, opened), max(last, closed)
    alone = [word for word, _ in words]
    return alone[:first] + ["("] * many + alone[first:last + 1] + [")"] * many + alone[last + 1:]


class Rows(unittest.TestCase):
    def test_statements(self):
        for text in (
                "let a = b ;", "set a = b ;", "give ;", "give a ;", "a ;", "if a { }", "if a { b ; }", "if a { } else { }",
                "if a { b ; } else { a ; b ; }", "if a { } else if b { }", "if a { } else if b { } else { a ; }",
                "while a { b ; }", "for a in b { a ; b ; }", "def f ( ) { }", "def f ( a ) { }", "def f ( a , b ) { give a ; }",
                "[ ] ;", "[ a ] ;", "[ a , b ] ;", "{ } ;", "{ a : b } ;", "{ a : b , b : 1 } ;", "fn ( ) -> a ;",
                "fn ( x , y ) -> a ;", "a ( ) ;", "a ( b ) ;", "a ( b , 1 ) ;", "a [ b ] ;", "a . b ;", "not a ;", "- a ;",
                '"q" ;', "'''r\ns''' ;", "1.5 ;", "true ;", "false ;", "none ;"):
            program = read_program(text)
            words = tuple(text.split(" "))
            self.assertEqual(row_of(program), words)
            self.assertEqual(words_of(program), tuple((word, at) for at, word in enumerate(words)))
            self.assertEqual(plain_text(program), text)
            twice = program + program
            self.assertEqual(row_of(twice), words + words)
            self.assertEqual(plain_text(twice), text + " " + text)

    def test_nothing(self):
        self.assertEqual((row_of(()), words_of(()), plain_text(()), statement_spans(())), ((), (), "", []))

    def test_row_leaves_grouping_brackets_out(self):
        program = read_program("let a = (b + 1) * ((c))(d);")
        self.assertEqual(row_of(program), tuple("let a = b + 1 * c ( d ) ;".split()))
        self.assertEqual(words_of(program), (
            ("let", 0), ("a", 1), ("=", 2), ("(", None), ("b", 3), ("+", 4), ("1", 5), (")", None), ("*", 6), ("c", 7),
            ("(", 8), ("d", 9), (")", 10), (";", 11)))
        self.assertEqual(plain_text(program), "let a = ( b + 1 ) * c ( d ) ;")

    def test_rows_of_any_programs(self):
        for program in samples.programs(5, 300):
            row = tuple(plain.PlainRow(program).row)
            words = words_of(program)
            self.assertEqual(row_of(program), row)
            self.assertEqual([(word, at) for word, at in words if at is not None], list(zip(row, range(len(row)))))
            self.assertTrue(all(word in "()" for word, at in words if at is None))
            self.assertEqual(plain_text(program), " ".join(word for word, _ in words))
            for thing in (words, row_of(program)):
                self.assertIs(type(thing), tuple)


class GroupingBrackets(unittest.TestCase):
    def test_levels(self):
        for tree, text in (
                (two("*", two("+", A, B), ONE), "( a + b ) * 1 ;"), (two("+", two("*", A, B), ONE), "a * b + 1 ;"),
                (two("-", A, two("-", B, ONE)), "a - ( b - 1 ) ;"), (two("-", two("-", A, B), ONE), "a - b - 1 ;"),
                (two("^", two("^", A, B), ONE), "( a ^ b ) ^ 1 ;"), (two("^", A, two("^", B, ONE)), "a ^ b ^ 1 ;"),
                (two("<", two("<", A, B), ONE), "( a < b ) < 1 ;"), (two("<", A, two("==", B, ONE)), "a < ( b == 1 ) ;"),
                (two("and", two("or", A, B), ONE), "( a or b ) and 1 ;"), (two("or", A, two("or", B, ONE)), "a or ( b or 1 ) ;"),
                (("not", two("and", A, B)), "not ( a and b ) ;"), (("not", two("<", A, B)), "not a < b ;"),
                (two("<", ("not", A), B), "( not a ) < b ;"), (two("<", A, ("not", B)), "a < ( not b ) ;"),
                (two("and", ("not", A), ("not", B)), "not a and not b ;"), (("minus", ("not", A)), "- ( not a ) ;"),
                (("minus", ("minus", A)), "- - a ;"), (("minus", two("*", A, B)), "- ( a * b ) ;"),
                (two("*", ("minus", A), ("minus", B)), "- a * - b ;"), (two("^", ("minus", A), ("minus", B)), "( - a ) ^ - b ;"),
                (("minus", two("^", A, B)), "- a ^ b ;"), (("call", ("minus", A), (("minus", B),)), "( - a ) ( - b ) ;"),
                (("index", two("^", A, B), two("^", A, B)), "( a ^ b ) [ a ^ b ] ;"), (("field", two("or", A, B), "z"), "( a or b ) . z ;"),
                (("field", ("field", A, "y"), "z"), "a . y . z ;"), (("call", ("list", (A,)), ()), "[ a ] ( ) ;"),
                (("list", (two("or", A, B), ("not", A))), "[ a or b , not a ] ;"), (("map", ((two("or", A, B), two("or", A, B)),)), "{ a or b : a or b } ;"),
                (("fn", ("x",), two("or", A, B)), "fn ( x ) -> a or b ;")):
            self.assertEqual(text_of(tree), text)

    def test_fn(self):
        for tree, text in (
                (two("+", FN, B), "( fn ( x ) -> x ) + b ;"), (two("+", B, FN), "b + fn ( x ) -> x ;"),
                (("call", FN, ()), "( fn ( x ) -> x ) ( ) ;"), (("index", FN, FN), "( fn ( x ) -> x ) [ fn ( x ) -> x ] ;"),
                (("field", FN, "z"), "( fn ( x ) -> x ) . z ;"), (("call", B, (FN, FN)), "b ( fn ( x ) -> x , fn ( x ) -> x ) ;"),
                (two("*", two("*", A, FN), B), "a * ( fn ( x ) -> x ) * b ;"), (two("*", two("+", A, FN), B), "( a + fn ( x ) -> x ) * b ;"),
                (two("+", ("minus", FN), B), "- ( fn ( x ) -> x ) + b ;"), (two("and", ("not", FN), B), "not ( fn ( x ) -> x ) and b ;"),
                (two("+", ("not", FN), B), "( not fn ( x ) -> x ) + b ;"), (("minus", ("not", FN)), "- ( not fn ( x ) -> x ) ;"),
                (two("+", ("fn", (), FN), B), "( fn ( ) -> fn ( x ) -> x ) + b ;"), (("not", ("fn", (), FN)), "not fn ( ) -> fn ( x ) -> x ;"),
                (two("+", two("*", A, two("^", B, FN)), ONE), "a * b ^ ( fn ( x ) -> x ) + 1 ;"),
                (two("or", two("or", A, ("not", FN)), two("or", FN, FN)), "a or not ( fn ( x ) -> x ) or ( ( fn ( x ) -> x ) or fn ( x ) -> x ) ;"),
                (two("+", two("+", A, ("fn", (), two("+", FN, B))), ONE), "a + ( fn ( ) -> ( fn ( x ) -> x ) + b ) + 1 ;"),
                (("fn", (), two("+", FN, B)), "fn ( ) -> ( fn ( x ) -> x ) + b ;"), (("call", ("field", FN, "z"), ()), "( fn ( x ) -> x ) . z ( ) ;")):
            self.assertEqual(text_of(tree), text)
        self.assertEqual(plain_text((("if", FN, (), None),)), "if fn ( x ) -> x { }")
        self.assertEqual(plain_text((("let", "a", ("list", (FN, B))),)), "let a = [ fn ( x ) -> x , b ] ;")

    def check(self, program):
        """The words are read as the program; no couple of brackets could be left out; each other could stand there."""
        words = words_of(program)
        alone = [word for word, _ in words]
        self.assertEqual(read_row(tuple(alone)), program)
        for begin, end in couples(words):
            less = tuple(alone[:begin] + alone[begin + 1:end] + alone[end + 1:])
            self.assertNotEqual(read_row(less), program, less)

    def check_more(self, program):
        """With one couple of grouping brackets more, or two, round any expression it is read as the same program."""
        words = words_of(program)
        for begin, end in plain.PlainRow(program).ranges:
            for many in (1, 2):
                more = with_more(words, begin, end, many)
                self.assertEqual(read_row(tuple(more)), program, more)

    def test_all_of_three_levels(self):
        wrappers = samples.wrappers()
        for one in wrappers:
            for other in wrappers:
                for tree in (A, FN, two("==", A, B)):
                    self.check((("do", one(other(tree))),))

    def test_all_of_three_wrappers(self):
        kept = [0, 1, 2, 8, 10, 12, 13, 14, 15, 21, 23, 25, 26, 27, 28, 30, 33]
        wrappers = [samples.wrappers()[at] for at in kept]
        for one in wrappers:
            for other in wrappers:
                for inner in wrappers:
                    self.check((("do", one(other(inner(FN)))),))

    def test_any_programs(self):
        for program in samples.programs(51, 400):
            self.check(program)
            self.assertEqual(faults_of(plain_text(program)), [])
            self.assertEqual(read_program(plain_text(program)), program)

    def test_more_brackets(self):
        for program in samples.programs(52, 150, 2):
            self.check_more(program)
        for one in samples.wrappers():
            for other in samples.wrappers():
                self.check_more((("do", one(other(FN))),))

    def test_just_those_told(self):
        """There are as many couples as operands that want them, and operands that end in fn without."""
        for program in samples.programs(53, 400):
            many = 0
            for tree, _ in samples.expressions_in(program):
                for side, operand in operands(tree):
                    wants = wants_brackets(tree, side)
                    many += wants or side in ("left", "head") and ends_in_fn(operand)
            self.assertEqual(len(couples(words_of(program))), many)


class Spans(unittest.TestCase):
    def spans(self, text):
        return statement_spans(read_program(text))

    def test_flat_ones(self):
        self.assertEqual(self.spans("a;"), [(0, 2, 0, True)])
        self.assertEqual(self.spans("a; let b = (c); give;"), [(0, 2, 0, True), (2, 7, 0, False), (7, 9, 0, False)])
        self.assertIs(type(self.spans("a;")), list)

    def test_blocks(self):
        self.assertEqual(self.spans("while a { }"), [(0, 4, 0, True)])
        self.assertEqual(self.spans("while a { b; } c;"), [(0, 6, 0, True), (3, 5, 1, True), (6, 8, 0, False)])
        self.assertEqual(self.spans("for a in b { c; d; }"), [(0, 10, 0, True), (5, 7, 1, True), (7, 9, 1, False)])
        self.assertEqual(self.spans("def f(a) { while b { c; } d; }"), [
            (0, 15, 0, True), (6, 12, 1, True), (9, 11, 2, True), (12, 14, 1, False)])

    def test_ifs(self):
        self.assertEqual(self.spans("if a { b; }"), [(0, 6, 0, True), (3, 5, 1, True)])
        self.assertEqual(self.spans("if a { } else { }"), [(0, 7, 0, True)])
        self.assertEqual(self.spans("if a { b; c; } else { d; c; }"), [
            (0, 15, 0, True), (3, 5, 1, True), (5, 7, 1, False), (10, 12, 1, True), (12, 14, 1, False)])
        self.assertEqual(self.spans("if a { } else if b { c; } else if d { } else { e; }"), [
            (0, 21, 0, True), (5, 21, 0, False), (8, 10, 1, True), (12, 21, 0, False), (18, 20, 1, True)])
        self.assertEqual(self.spans("while a { if b { } else if c { d; } e; }"), [
            (0, 17, 0, True), (3, 14, 1, True), (8, 14, 1, False), (11, 13, 2, True), (14, 16, 1, False)])

    def test_the_list_is_the_callers(self):
        self.spans("a;").append(None)
        self.assertEqual(self.spans("a;"), [(0, 2, 0, True)])

    def test_any_programs(self):
        for program in samples.programs(54, 400):
            spans = statement_spans(program)
            self.assertEqual(spans, plain.PlainRow(program).spans)
            self.assertEqual(len(spans), len(statements_in(program)))
            for (begin, end, _, is_first), statement in zip(spans, statements_in(program)):
                self.assertIs(type(is_first), bool)
                self.assertEqual(row_of(program)[begin:end], row_of((statement,)))


class Bounds(unittest.TestCase):
    def test_twenty_deep(self):
        tree = A
        for _ in range(20):
            tree = two("+", tree, ("not", FN))
            self.assertEqual(read_row(tuple(words_alone((("do", tree),)))), (("do", tree),))
        statement = ("do", A)
        for _ in range(20):
            statement = ("if", A, (statement,), ("if", B, (), (statement,))) if _ < 5 else ("while", A, (statement,))
        self.assertEqual(read_program(plain_text((statement,))), (statement,))
        self.assertEqual(statement_spans((statement,)), plain.PlainRow((statement,)).spans)

    def test_long_ones(self):
        text = " ".join(["a ;"] * 1000)
        self.assertEqual(plain_text(read_program(text)), text)
        self.assertEqual(statement_spans(read_program(text)), [(at, at + 2, 0, at == 0) for at in range(0, 2000, 2)])
        text = "[ " + "a , " * 99 + "a ] ;"
        self.assertEqual(plain_text(read_program(text)), text)

    def test_beyond_all_depths(self):
        for text in ("- " * 1500 + "a ;", "a + " * 900 + "a ;", "[ " * 900 + "] " * 900 + ";", "if a { " * 500 + "} " * 499 + "}"):
            self.assertEqual(plain_text(read_program(text)), text)
        spans = statement_spans(read_program("if a { } " + "else if a { } " * 250))
        self.assertEqual(spans, [(5 * at, 1254, 0, at == 0) for at in range(251)])


if __name__ == "__main__":
    unittest.main()
