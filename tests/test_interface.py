"""The interface: names, arguments, and where they are defined."""

import ast
import importlib
import inspect
import pathlib
import unittest

PACKAGE = pathlib.Path(__file__).resolve().parent.parent / "leastlaid"
INTERFACE = {
    "errors": (
        "LaidError", "Wrong(place)", "Faulty(faults)", "NoStyle(line)", "TooMany(most)", "NoChange(change)", "NoFile(path)",
        "Nothing", "NoCommand"),
    "words": ("kind_of(thing)", "is_integer(thing)", "is_text(thing)", "is_name(thing)", "is_comment(thing)"),
    "cutting": ("lines_of(text)", "place_of(text, index)", "cut(text)", "index_of(text, place)", "glued(one, other)"),
    "brackets": ("paired(text, tokens)", "deep_at(text, tokens)"),
    "trees": (
        "is_expression(thing)", "is_statement(thing)", "is_program(thing)", "wants_brackets(expression, side)",
        "ends_in_fn(expression)", "statements_in(program)", "level_of(expression)", "operands(expression)"),
    "reading": ("faults_of(text)", "read_program(text)", "read_row(words)"),
    "rows": ("row_of(program)", "words_of(program)", "plain_text(program)", "statement_spans(program)"),
    "owners": (
        "is_line_comment(comment)", "spans_lines(comment)", "can_be_behind(comments)", "written(comment)", "owned(text)",
        "blank_lines(text)"),
    "pages": (
        "page_of(text)", "in_order(page)", "clipped(page, most)", "bare(page)", "put_together(parts, empty, comments)",
        "is_page(thing)", "same_page(one, other)", "text_of(page)", "parted(page)"),
    "docs": (
        "is_document(thing)", "flat_text(document)", "parts_in(document)", "depth_of(document)", "choices_in(document)"),
    "layouts": (
        "layout_by(document, ways)", "ways_by(document, ways)", "broken_by(document, ways)", "all_layouts(document)",
        "ways_to(document, text)"),
    "badness": (
        "is_rank(thing)", "is_badness(thing)", "over_of(text, width)", "badness_of(width, document, ways)", "sum_of(one, other)",
        "ranked(rank, badness)", "compared(rank, one, other)", "best_by_all(width, rank, document)"),
    "stands": ("first_stand(document)", "moves(width, stand)", "is_stand(thing)", "rest_size(stand)"),
    "tables": (
        "stands_of(width, document)", "table_of(width, rank, document)", "least_badness(width, rank, document)",
        "best_moves(width, rank, document)", "text_by(width, document, places)", "laid(width, rank, document)"),
    "judge": (
        "is_table(width, rank, document, thing)", "has_layout(width, document, text, badness)",
        "is_best(width, rank, document, text, thing)"),
    "styles": (
        "is_style(thing)", "plain_style()", "style_of(named)", "fitting(style, text)", "style_with(style, word, value)",
        "named(style)", "needed_width(text)"),
    "styletexts": (
        "is_layer(thing)", "laid(style, layer)", "style_for(style, layers, path)", "over(below, above)", "layer_between(one, other)",
        "read_layer(text)", "show_layer(layer)", "layers_for(layers, path)", "same_style_paths(style, layers, paths)"),
    "printing": ("document_of(page, style)",),
    "formatting": (
        "formatted(text, style)", "formatted_page(page, style)", "joined_shares(page, style, shares)",
        "statement_documents(page, style)", "shares_of(page, style)", "paper_of(page, style)", "least_of(page, style)",
        "is_paper(page, style, other, thing)"),
    "ranges": (
        "bundles(text)", "met(text, first, last)", "format_bundles(text, style, lot)", "format_lines(text, style, first, last)"),
    "edits": (
        "gaps_of(text)", "items_of(text)", "all_changed(text, changes)", "changes_to(text, other)", "edits_of(text, style)"),
    "checker": (
        "check(text, style)", "report(text, style)", "is_formatted(text, style)", "touched_lines(text, style)",
        "with_most_over(text, style)"),
    "changes": (
        "changed(text, change)", "changed_by(text, changes)", "change_between(one, other)", "back_of(text, change)"),
    "keeper": ("Keeper(text, style)",),
    "project": (
        "layers_in(files)", "wanted_files(files, style)", "after_writes(files, writes, many)", "words_for(files, style)",
        "style_at(files, style, path)", "bad_styles(files)", "writes_for(files, style)", "Project(files, style)"),
    "desk": ("Desk(files, style)",),
}
METHODS = {
    ("keeper", "Keeper"): (
        "text()", "style()", "faults()", "formatted()", "last_formatted()", "change(change)", "restyle(style)", "undo()",
        "take_over()", "laid_out()", "twin()", "__eq__(other)"),
    ("project", "Project"): (
        "put(path, text)", "drop(path)", "files()", "word(path)", "run(many)", "left()", "twin()", "__eq__(other)"),
    ("desk", "Desk"): ("execute(line)", "project()", "twin()", "__eq__(other)"),
}


class Interface(unittest.TestCase):
    def test_names_and_arguments(self):
        for name, listed in INTERFACE.items():
            module = importlib.import_module("leastlaid." + name)
            tree = ast.parse((PACKAGE / (name + ".py")).read_text())
            defined = {node.name for node in tree.body if isinstance(node, (ast.FunctionDef, ast.ClassDef))}
            for signature in listed:
                function, _, arguments = signature.rstrip(")").partition("(")
                self.assertIn(function, defined)
                thing = getattr(module, function)
                self.assertEqual(thing.__module__, "leastlaid." + name)
                if arguments:
                    self.assertEqual(list(inspect.signature(thing).parameters), arguments.split(", "))

    def test_methods_stand_in_their_classes(self):
        for (name, kind), listed in METHODS.items():
            thing = getattr(importlib.import_module("leastlaid." + name), kind)
            for signature in listed:
                method, _, arguments = signature.rstrip(")").partition("(")
                self.assertIn(method, vars(thing))
                expected = ["self"] + [argument for argument in arguments.split(", ") if argument]
                self.assertEqual(list(inspect.signature(vars(thing)[method]).parameters), expected)

    def test_init_is_empty(self):
        self.assertEqual((PACKAGE / "__init__.py").read_bytes(), b"")


class Unchanged(unittest.TestCase):
    """Nothing passed in is changed, and equal arguments give equal results."""

    def test_arguments(self):
        from leastlaid.brackets import deep_at, paired
        from leastlaid.cutting import cut
        from leastlaid.trees import is_expression, is_program
        text = "f(a, [b]) } {"
        tokens = list(cut(text)[0])
        kept = list(tokens)
        self.assertEqual(paired(text, tokens), paired(text, tokens))
        self.assertEqual(deep_at(text, tokens), deep_at(text, tuple(tokens)))
        self.assertEqual(tokens, kept)
        for thing in (["do", [1, {2: [3]}]], {"a": ["b"]}, ("list", [("name", "a")])):
            told = repr(thing)
            self.assertIs(is_expression(thing), False)
            self.assertIs(is_program(thing), False)
            self.assertEqual(repr(thing), told)

    def test_results_are_new(self):
        from leastlaid.brackets import paired
        from leastlaid.cutting import cut, lines_of
        from leastlaid.owners import blank_lines, owned
        from leastlaid.reading import faults_of, read_program
        from leastlaid.rows import statement_spans
        from leastlaid.trees import statements_in
        text = "a;\n\nb; # c"
        program = read_program(text)
        for function, argument in ((lines_of, text), (owned, text), (blank_lines, text), (faults_of, "let"),
                                   (statement_spans, program), (statements_in, program)):
            one, other = function(argument), function(argument)
            self.assertEqual(one, other)
            self.assertIsNot(one, other)
            one.clear()
            self.assertEqual(function(argument), other)
        self.hold_documents()
        tokens = cut("()")[0]
        self.assertIsNot(paired("()", tokens)[0], paired("()", tokens)[0])

    def hold_documents(self):
        from leastlaid.layouts import all_layouts
        from leastlaid.stands import moves
        from leastlaid.tables import stands_of
        document = ("group", ("fill", (("text", "a"), ("text", "b"))))
        for function in (all_layouts, lambda one: moves(8, (None, ((0, one),))), lambda one: stands_of(8, one)):
            one, other = function(document), function(document)
            self.assertEqual(one, other)
            one.clear()
            self.assertEqual(function(document), other)


if __name__ == "__main__":
    unittest.main()
