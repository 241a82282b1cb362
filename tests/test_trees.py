"""Point 15: trees."""

import unittest

from leastlaid.reading import read_program
from leastlaid.trees import (
    ends_in_fn, is_expression, is_program, is_statement, level_of, operands, statements_in, wants_brackets)
from tests import samples
from tests.samples import A, B, ONE
from tests.values import OTHERS, STRANGE

FN = ("fn", ("x",), ("name", "x"))
EXPRESSIONS = samples.SINGLES + (
    ("list", ()), ("list", (A, ONE)), ("map", ()), ("map", ((A, ONE), (B, B))), ("fn", (), A), ("fn", ("x", "x"), A), FN,
    ("call", A, ()), ("call", A, (A, ONE)), ("index", A, ONE), ("field", A, "b"), ("not", A), ("minus", A),
) + tuple(("two", operator, A, B) for operator in samples.OPERATORS)
STATEMENTS = (
    ("let", "a", ONE), ("set", "a", ONE), ("give", None), ("give", ONE), ("do", A),
    ("if", A, (), None), ("if", A, (("do", A),), ()), ("if", A, (), (("do", A),)),
    ("if", A, (), ("if", B, (), None)), ("if", A, (), ("if", B, (), ("if", A, (), ()))),
    ("while", A, ()), ("while", A, (("give", None),)), ("for", "a", A, ()), ("for", "a", A, (("do", A),)),
    ("def", "f", (), ()), ("def", "f", ("a", "a"), (("give", A),)),
)
LEVELS = {
    "or": 1, "and": 2, "==": 4, "!=": 4, "<": 4, "<=": 4, ">": 4, ">=": 4, "+": 5, "-": 5, "*": 6, "/": 6, "^": 8,
}
# The least level at the left and at the right of each operator, as point 2 tells.
LEASTS = {"or": (1, 2), "and": (2, 3), "+": (5, 6), "-": (5, 6), "*": (6, 7), "/": (6, 7), "^": (9, 7)}
OF_LEVEL = {
    1: ("two", "or", A, B), 2: ("two", "and", A, B), 3: ("not", A), 4: ("two", "<", A, B), 5: ("two", "-", A, B),
    6: ("two", "/", A, B), 7: ("minus", A), 8: ("two", "^", A, B), 9: ("call", A, ()), 10: ONE,
}
WRONG_EXPRESSIONS = (
    (), ("name",), ("name", "a", "b"), ("name", "let"), ("name", "1"), ("name", ""), ("name", True), ("name", ("a",)),
    ("name", None), ("name", ["a"]), ["name", "a"], ("names", "a"), (True, "a"), (None,), (("name", "a"),), ([], "a"),
    ("number", 1), ("number", "1."), ("number", "a"), ("number", "-1"), ("number", True),
    ("quote", "a"), ("quote", '"'), ("quote", '"a\n"'), ("quote", "'''a'''"), ("raw", '"a"'), ("raw", "'''"),
    ("word", "let"), ("word", "a"), ("word", True), ("word", None), ("word", "True"), ("word", ["true"]),
    ("line", "# a"), ("sign", "("), ("keyword", "true"), ("true",),
    ("list",), ("list", [A]), ("list", A), ("list", (A, "a")), ("list", (A,), ()), ("list", ((A, B),)), ("list", None),
    ("map", {}), ("map", {"a": A}), ("map", [(A, B)]), ("map", ([A, B],)), ("map", ((A,),)), ("map", ((A, B, A),)),
    ("map", (A, B)), ("map", ((A, "b"),)), ("map", (("a", B),)), ("map", ((A, B), None)), ("map", (("a", "b"),)),
    ("fn", "x", A), ("fn", ["x"], A), ("fn", ("x", "let"), A), ("fn", ("1",), A), ("fn", (A,), A), ("fn", ("x",)),
    ("fn", ("x",), "x"), ("fn", None, A), ("fn", (True,), A), ("fn", ("x",), A, A),
    ("call", A), ("call", A, A), ("call", A, [A]), ("call", "a", ()), ("call", A, (None,)), ("call", A, (), ()),
    ("index", A), ("index", A, (A,)), ("index", A, "1"), ("index", "a", A), ("index", A, A, A),
    ("field", A), ("field", A, B), ("field", A, "in"), ("field", "a", "b"), ("field", A, True),
    ("not",), ("not", "a"), ("not", A, B), ("not", None), ("minus",), ("minus", True), ("minus", A, A),
    ("two", "+", A), ("two", A, "+", B), ("two", "not", A, B), ("two", "=", A, B), ("two", "->", A, B),
    ("two", ".", A, B), ("two", True, A, B), ("two", ["+"], A, B), ("two", ("+",), A, B), ("two", {}, A, B),
    ("two", "+", A, "b"), ("two", "+", None, B), ("two", "+", A, B, A), ("two", "or ", A, B), ("+", A, B),
    "name", "a",
)
WRONG_STATEMENTS = (
    (), A, ("let",), ("let", "a"), ("let", "a", "b"), ("let", "a", A, B), ("let", "1", A), ("let", "if", A),
    ("let", A, B), ("let", True, A), ("let", "a", None), ["let", "a", A], ("set", "a", ("do", A)), ("set", "a.b", A),
    ("give",), ("give", True), ("give", ()), ("give", False), ("give", A, A), ("give", "a"), ("give", ("give", None)),
    ("do",), ("do", None), ("do", ("do", A)), ("do", "a"), ("do", A, A),
    ("if", A, ()), ("if", A, (), False), ("if", A, [], None), ("if", A, (), []), ("if", A, None, None),
    ("if", A, ("do", A), None), ("if", A, (), ("do", A)), ("if", A, (), ("while", A, ())), ("if", None, (), None),
    ("if", A, (), ("if",)), ("if", A, (), ("if", A, ())), ("if", A, (), (("if", A, ()),)), ("if", A, (), (A,)),
    ("if", A, (), ["if", A, (), None]), ("if", A, (), None, None), ("if", A, (), "if"), ("if", A, (), "else"),
    ("while", A), ("while", A, [("do", A)]), ("while", A, (A,)), ("while", (), ()), ("while", A, None),
    ("for", "a", A), ("for", A, A, ()), ("for", "in", A, ()), ("for", "a", A, ("do", A)), ("for", "a", A, None),
    ("def", "f", ()), ("def", "f", "x", ()), ("def", "f", ["x"], ()), ("def", "f", ("fn",), ()), ("def", "1", (), ()),
    ("def", "f", (), None), ("def", "f", (), [("do", A)]), ("def", "f", ((),), ()), ("def", "f", (A,), ()),
    "give", ("else",), ("block", ()), (("do", A),),
)


def deep_ones(put_deep, thing):
    """A thing at any depth: itself, and within more and more wrappers."""
    yield thing
    for put in put_deep:
        yield put(thing)
        for other in put_deep:
            yield other(put(thing))


class AreTrees(unittest.TestCase):
    def check(self, function, thing, expected):
        self.assertIs(function(thing), expected, thing)

    def test_expressions(self):
        for tree in EXPRESSIONS:
            self.check(is_expression, tree, True)
            self.check(is_statement, tree, False)
            self.check(is_program, tree, False)

    def test_statements(self):
        for tree in STATEMENTS:
            self.check(is_statement, tree, True)
            self.check(is_expression, tree, False)
            self.check(is_program, tree, False)
            self.check(is_program, (tree,), True)
            self.check(is_program, (tree, tree), True)
            self.check(is_program, [tree], False)
            self.check(is_program, (tree, None), False)
            self.check(is_program, ((tree,),), False)

    def test_programs(self):
        for program, expected in ((), True), ((("do", A),), True), ([], False), ((A,), False), (((),), False):
            self.check(is_program, program, expected)
        for program in samples.programs(15, 300):
            self.check(is_program, program, True)

    def test_wrong_expressions(self):
        for thing in WRONG_EXPRESSIONS:
            self.check(is_expression, thing, False)

    def test_wrong_statements(self):
        for thing in WRONG_STATEMENTS:
            self.check(is_statement, thing, False)
            self.check(is_program, (thing,), False)

    def test_wrong_ones_deep_within(self):
        wrappers = samples.wrappers()
        for thing in WRONG_EXPRESSIONS:
            for tree in deep_ones(wrappers[:1] + wrappers[13:14] + wrappers[-11:], thing):
                self.check(is_expression, tree, False)
            for statement in samples.statements_with(thing):
                if not (statement == ("give", None)):
                    self.check(is_statement, statement, False)
        for thing in WRONG_STATEMENTS:
            for outer in samples.statements_around((thing,)):
                self.check(is_statement, outer, False)
                self.check(is_program, (("while", A, (("do", A), outer)),), False)

    def test_right_ones_deep_within(self):
        for tree in EXPRESSIONS:
            for deep in deep_ones(samples.wrappers(), tree):
                self.check(is_expression, deep, True)
            for statement in samples.statements_with(tree):
                self.check(is_statement, statement, True)
        for statement in STATEMENTS:
            for outer in samples.statements_around((statement,)):
                self.check(is_statement, outer, True)

    def test_other_values(self):
        for thing in OTHERS + STRANGE:
            self.check(is_expression, thing, thing == ("name", "a"))
            self.check(is_statement, thing, False)
            self.check(is_program, thing, thing == ())
            self.check(is_expression, ("not", thing), thing == ("name", "a"))
            self.check(is_expression, ("name", thing), False)
            self.check(is_expression, (thing, "a"), False)

    def test_parts_exchanged(self):
        """Any part of a tree exchanged, left out or put twice makes it none, but where one can be put by chance."""
        for tree in EXPRESSIONS + STATEMENTS:
            is_tree = is_expression if tree in EXPRESSIONS else is_statement
            self.check(is_tree, list(tree), False)
            for at in range(len(tree)):
                self.check(is_tree, tree[:at] + tree[at + 1:], False)
                self.check(is_tree, tree[:at + 1] + tree[at:], False)
                for other in (True, False, 0, 1, [], {}, "", "?", ("?",), [tree[at]]):
                    self.check(is_tree, tree[:at] + (other,) + tree[at + 1:], False)

    def test_deep_trees(self):
        tree = A
        for _ in range(3000):
            tree = ("minus", tree)
        self.check(is_expression, tree, True)
        self.check(is_expression, ("not", ("list", (tree, "a"))), False)
        self.assertIs(ends_in_fn(tree), False)
        program = read_program("if a {" * 600 + "}" * 600)
        self.check(is_program, program, True)
        self.assertEqual(len(statements_in(program)), 600)


class Levels(unittest.TestCase):
    def test_level_of(self):
        for operator, level in LEVELS.items():
            self.assertEqual(level_of(("two", operator, A, B)), level)
        for tree, level in ((("not", A), 3), (("minus", A), 7), (("call", A, ()), 9), (("index", A, A), 9),
                            (("field", A, "a"), 9), (("list", ()), 10), (("map", ()), 10), (FN, 10)):
            self.assertEqual(level_of(tree), level)
        for tree in samples.SINGLES:
            self.assertEqual(level_of(tree), 10)

    def test_operands(self):
        for operator in LEVELS:
            self.assertEqual(operands(("two", operator, A, ONE)), (("left", A), ("right", ONE)))
        for sort in ("not", "minus"):
            self.assertEqual(operands((sort, ONE)), (("inside", ONE),))
        for tree in (("call", B, ()), ("call", B, (A, A)), ("index", B, A), ("field", B, "a")):
            self.assertEqual(operands(tree), (("head", B),))
        for tree in samples.SINGLES + (("list", (A,)), ("map", ((A, B),)), ("fn", ("x",), A)):
            self.assertEqual(operands(tree), ())

    def test_wants_brackets(self):
        for level, operand in OF_LEVEL.items():
            for operator in LEVELS:
                left, right = LEASTS.get(operator, (5, 5))
                self.assertIs(wants_brackets(("two", operator, operand, A), "left"), level < left)
                self.assertIs(wants_brackets(("two", operator, A, operand), "right"), level < right)
                self.assertIs(wants_brackets(("two", operator, operand, FN), "left"), level < left)
            self.assertIs(wants_brackets(("not", operand), "inside"), level < 3)
            self.assertIs(wants_brackets(("minus", operand), "inside"), level < 7)
            self.assertIs(wants_brackets(("call", operand, (A,)), "head"), level < 9)
            self.assertIs(wants_brackets(("index", operand, A), "head"), level < 9)
            self.assertIs(wants_brackets(("field", operand, "a"), "head"), level < 9)
        for operator in LEVELS:
            self.assertIs(wants_brackets(("two", operator, FN, A), "left"), False)
            self.assertIs(wants_brackets(("two", operator, A, FN), "right"), False)

    def test_ends_in_fn(self):
        self.assertIs(ends_in_fn(FN), True)
        self.assertIs(ends_in_fn(("not", FN)), True)
        self.assertIs(ends_in_fn(("minus", ("minus", FN))), True)
        for tree in samples.SINGLES + (
                ("call", FN, ()), ("index", FN, A), ("field", FN, "a"), ("list", (FN,)), ("map", ((A, FN),)),
                ("call", A, (FN,)), ("index", A, FN), ("not", ("call", A, (FN,)))):
            self.assertIs(ends_in_fn(tree), False)
        for operator in LEVELS:
            self.assertIs(ends_in_fn(("two", operator, A, FN)), True)
            self.assertIs(ends_in_fn(("two", operator, FN, A)), False)
            self.assertIs(ends_in_fn(("two", operator, A, ("call", FN, ()))), False)

    def test_ends_in_fn_of_operands(self):
        """An fn at the end of an operand counts where the operand wants no brackets."""
        for level, inner in ((1, ("two", "or", A, FN)), (2, ("two", "and", A, FN)), (3, ("not", FN)),
                             (4, ("two", ">=", A, FN)), (5, ("two", "+", A, FN)), (6, ("two", "*", A, FN)),
                             (7, ("minus", FN)), (8, ("two", "^", A, FN)), (10, FN)):
            for operator in LEVELS:
                least = LEASTS.get(operator, (5, 5))[1]
                self.assertIs(ends_in_fn(("two", operator, A, inner)), level >= least)
            self.assertIs(ends_in_fn(("not", inner)), level >= 3)
            self.assertIs(ends_in_fn(("minus", inner)), level >= 7)
            self.assertIs(ends_in_fn(("two", "or", A, ("not", inner))), level >= 3)
            self.assertIs(ends_in_fn(("minus", ("two", "^", A, inner))), level >= 7)
            self.assertIs(ends_in_fn(("two", "*", A, ("not", inner))), False)


class Statements(unittest.TestCase):
    def test_flat_ones(self):
        program = (("do", A), ("give", None), ("let", "a", A), ("set", "a", A))
        self.assertEqual(statements_in(()), [])
        self.assertEqual(statements_in(program), list(program))
        self.assertIs(type(statements_in(program)), list)

    def test_blocks(self):
        one, two, three = ("let", "a", A), ("let", "b", A), ("let", "c", A)
        loop = ("while", A, (two,))
        fun = ("def", "f", ("x",), (one, loop))
        walk = ("for", "a", A, (fun, three))
        self.assertEqual(statements_in((walk, one)), [walk, fun, one, loop, two, three, one])

    def test_ifs(self):
        one, two, three = ("let", "a", A), ("let", "b", A), ("let", "c", A)
        last = ("if", B, (two,), (three,))
        chain = ("if", A, (one,), last)
        self.assertEqual(statements_in((chain, one)), [chain, one, last, two, three, one])
        self.assertEqual(statements_in((("if", A, (one,), None),))[1:], [one])
        self.assertEqual(statements_in((("if", A, (), (two,)),))[1:], [two])
        self.assertEqual(statements_in((("if", A, (last,), ()),))[1:], [last, two, three])

    def test_the_same_at_two_places(self):
        one = ("do", A)
        loop = ("while", A, (one, one))
        self.assertEqual(statements_in((loop, loop)), [loop, one, one, loop, one, one])

    def test_the_list_is_the_callers(self):
        program = (("do", A),)
        statements_in(program).append(None)
        self.assertEqual(statements_in(program), [("do", A)])


if __name__ == "__main__":
    unittest.main()
