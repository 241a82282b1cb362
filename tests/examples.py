"""The examples of the document, word for word."""

POINT_14 = r"""
>>> from leastlaid.brackets import deep_at, paired
>>> from leastlaid.cutting import cut, glued, index_of, lines_of, place_of
>>> from leastlaid.words import is_comment, kind_of
>>> text = "let a = [1.5];  # why\n<* b\n*> x!"
>>> tokens, faults = cut(text)
>>> [token[:2] for token in tokens]
[('keyword', 'let'), ('name', 'a'), ('sign', '='), ('sign', '['), ('number', '1.5'), ('sign', ']'), ('sign', ';'), ('line', '# why'), ('block', '<* b\n*>'), ('name', 'x')]
>>> [faults, tokens[4][2], tokens[8][2], place_of(text, 26), index_of(text, (2, 3))]
[(((2, 4), 'sign'),), 9, 22, (1, 4), 30]
>>> [kind_of("fn"), kind_of("fns"), kind_of("<="), kind_of("< ="), kind_of("''' '''"), is_comment("# a "), len(lines_of(text))]
['keyword', 'name', 'sign', None, 'raw', False, 3]
>>> [glued("<", "="), glued("a", "1"), glued("1", "a"), glued(".", "5"), glued("1", "."), glued("-", ">")]
[True, True, False, False, False, True]
>>> odd = "f(a]; \"b\n(c"
>>> [[token[1] for token in cut(odd)[0]], cut(odd)[1], paired(odd, cut(odd)[0]), deep_at(text, tokens)]
[['f', '(', 'a', ']', ';', '(', 'c'], (((0, 6), 'quote'),), ({}, (((0, 1), 'open'), ((0, 3), 'close'), ((1, 0), 'open'))), (0, 0, 0, 1, 1, 1, 0, 0, 0, 0)]
"""

POINT_17 = r"""
>>> from leastlaid.reading import faults_of, read_program, read_row
>>> from leastlaid.rows import plain_text, row_of, statement_spans, words_of
>>> from leastlaid.trees import ends_in_fn, is_expression, is_program, level_of, wants_brackets
>>> program = read_program("let a = (x + 2) * -(f(y)[0].z);\nif not ready { give; } else if n { }")
>>> program[0]
('let', 'a', ('two', '*', ('two', '+', ('name', 'x'), ('number', '2')), ('minus', ('field', ('index', ('call', ('name', 'f'), (('name', 'y'),)), ('number', '0')), 'z'))))
>>> program[1]
('if', ('not', ('name', 'ready')), (('give', None),), ('if', ('name', 'n'), (), None))
>>> plain_text(program[:1])
'let a = ( x + 2 ) * - f ( y ) [ 0 ] . z ;'
>>> [len(row_of(program[:1])), statement_spans(program), read_program(plain_text(program)) == program]
[18, [(0, 18, 0, True), (18, 30, 0, False), (22, 24, 1, True), (26, 30, 0, False)], True]
>>> lone, more = ("fn", ("x",), ("name", "x")), ("name", "b")
>>> [level_of(lone), ends_in_fn(("two", "*", more, lone)), wants_brackets(("two", "*", ("two", "+", more, lone), more), "left")]
[10, True, True]
>>> [plain_text((("do", tree),)) for tree in [("two", "+", ("two", "*", more, lone), more), ("two", "^", ("minus", more), more), ("minus", ("two", "^", more, more))]]
['b * ( fn ( x ) -> x ) + b ;', '( - b ) ^ b ;', '- b ^ b ;']
>>> words_of((("do", ("two", "*", lone, more)),))[:3]
(('(', None), ('fn', 0), ('(', 1))
>>> [faults_of("let 1 = 2; f(a b); give"), faults_of("if a b { c }"), faults_of("a < b < c;"), faults_of("f(")]
[[((0, 4), 'name'), ((0, 15), ')'), ((0, 23), ';')], [((0, 5), '{')], [((0, 6), ';')], [((0, 1), 'open')]]
>>> [read_row(("give", "a", ";")), read_row(("give", "a")), is_expression(("number", "1.5")), is_program((("do", more),)), is_expression(("two", "not", more, more))]
[(('give', ('name', 'a')),), None, True, True, False]
"""

# Those rows of the example behind point 19 that use leastlaid.owners alone.
POINT_18 = r"""
>>> from leastlaid.owners import blank_lines, can_be_behind, owned, spans_lines, written
>>> text = "# top\nlet x = 1; # one  \n\n\n<* two *>\nset x =\n  # sum\n  (x + 2);\n# end"
>>> owned(text)
[('# top', (0, 0), 0, 'ahead'), ('# one', (1, 11), 4, 'behind'), ('<* two *>', (4, 0), 5, 'ahead'), ('# sum', (6, 2), 8, 'ahead'), ('# end', (8, 0), 12, 'ahead')]
>>> [can_be_behind(("<* a *>", "# b")), can_be_behind(("# b", "<* a *>")), written("# one  "), spans_lines("# one"), spans_lines("<* a\nb *>")]
[True, False, '# one', False, True]
"""
