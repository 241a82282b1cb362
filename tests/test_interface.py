"""The interface: names, arguments, and where they are defined."""

import ast
import importlib
import inspect
import pathlib
import unittest

PACKAGE = pathlib.Path(__file__).resolve().parent.parent / "leastlaid"
INTERFACE = {
    "errors": (
        "LaidError", "Wrong(place)", "Faulty(faults)", "NoStyle(line)", "TooMany(most)", "NoChange(change)", "NoFile(path)",
        "Nothing", "NoCommand"),
    "words": ("kind_of(thing)", "is_integer(thing)", "is_text(thing)", "is_name(thing)", "is_comment(thing)"),
    "cutting": ("lines_of(text)", "place_of(text, index)", "cut(text)", "index_of(text, place)", "glued(one, other)"),
    "brackets": ("paired(text, tokens)", "deep_at(text, tokens)"),
    "trees": (
        "is_expression(thing)", "is_statement(thing)", "is_program(thing)", "wants_brackets(expression, side)",
        "ends_in_fn(expression)", "statements_in(program)", "level_of(expression)", "operands(expression)"),
    "reading": ("faults_of(text)", "read_program(text)", "read_row(words)"),
    "rows": ("row_of(program)", "words_of(program)", "plain_text(program)", "statement_spans(program)"),
    "owners": (
        "is_line_comment(comment)", "spans_lines(comment)", "can_be_behind(comments)", "written(comment)", "owned(text)",
        "blank_lines(text)"),
}


class Interface(unittest.TestCase):
    def test_names_and_arguments(self):
        for name, listed in INTERFACE.items():
            module = importlib.import_module("leastlaid." + name)
            tree = ast.parse((PACKAGE / (name + ".py")).read_text())
            defined = {node.name for node in tree.body if isinstance(node, (ast.FunctionDef, ast.ClassDef))}
            for signature in listed:
                function, _, arguments = signature.rstrip(")").partition("(")
                self.assertIn(function, defined)
                thing = getattr(module, function)
                self.assertEqual(thing.__module__, "leastlaid." + name)
                if arguments:
                    self.assertEqual(list(inspect.signature(thing).parameters), arguments.split(", "))

    def test_init_is_empty(self):
        self.assertEqual((PACKAGE / "__init__.py").read_bytes(), b"")


class Unchanged(unittest.TestCase):
    """Nothing passed in is changed, and equal arguments give equal results."""

    def test_arguments(self):
        from leastlaid.brackets import deep_at, paired
        from leastlaid.cutting import cut
        from leastlaid.trees import is_expression, is_program
        text = "f(a, [b]) } {"
        tokens = list(cut(text)[0])
        kept = list(tokens)
        self.assertEqual(paired(text, tokens), paired(text, tokens))
        self.assertEqual(deep_at(text, tokens), deep_at(text, tuple(tokens)))
        self.assertEqual(tokens, kept)
        for thing in (["do", [1, {2: [3]}]], {"a": ["b"]}, ("list", [("name", "a")])):
            told = repr(thing)
            self.assertIs(is_expression(thing), False)
            self.assertIs(is_program(thing), False)
            self.assertEqual(repr(thing), told)

    def test_results_are_new(self):
        from leastlaid.brackets import paired
        from leastlaid.cutting import cut, lines_of
        from leastlaid.owners import blank_lines, owned
        from leastlaid.reading import faults_of, read_program
        from leastlaid.rows import statement_spans
        from leastlaid.trees import statements_in
        text = "a;\n\nb; # c"
        program = read_program(text)
        for function, argument in ((lines_of, text), (owned, text), (blank_lines, text), (faults_of, "let"),
                                   (statement_spans, program), (statements_in, program)):
            one, other = function(argument), function(argument)
            self.assertEqual(one, other)
            self.assertIsNot(one, other)
            one.clear()
            self.assertEqual(function(argument), other)
        tokens = cut("()")[0]
        self.assertIsNot(paired("()", tokens)[0], paired("()", tokens)[0])


if __name__ == "__main__":
    unittest.main()
