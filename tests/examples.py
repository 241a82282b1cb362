"""The examples of the document, word for word."""

POINT_14 = r"""
>>> from leastlaid.brackets import deep_at, paired
>>> from leastlaid.cutting import cut, glued, index_of, lines_of, place_of
>>> from leastlaid.words import is_comment, kind_of
>>> text = "let a = [1.5];  # why\n<* b\n*> x!"
>>> tokens, faults = cut(text)
>>> [token[:2] for token in tokens]
[('keyword', 'let'), ('name', 'a'), ('sign', '='), ('sign', '['), ('number', '1.5'), ('sign', ']'), ('sign', ';'), ('line', '# why'), ('block', '<* b\n*>'), ('name', 'x')]
>>> [faults, tokens[4][2], tokens[8][2], place_of(text, 26), index_of(text, (2, 3))]
[(((2, 4), 'sign'),), 9, 22, (1, 4), 30]
>>> [kind_of("fn"), kind_of("fns"), kind_of("<="), kind_of("< ="), kind_of("''' '''"), is_comment("# a "), len(lines_of(text))]
['keyword', 'name', 'sign', None, 'raw', False, 3]
>>> [glued("<", "="), glued("a", "1"), glued("1", "a"), glued(".", "5"), glued("1", "."), glued("-", ">")]
[True, True, False, False, False, True]
>>> odd = "f(a]; \"b\n(c"
>>> [[token[1] for token in cut(odd)[0]], cut(odd)[1], paired(odd, cut(odd)[0]), deep_at(text, tokens)]
[['f', '(', 'a', ']', ';', '(', 'c'], (((0, 6), 'quote'),), ({}, (((0, 1), 'open'), ((0, 3), 'close'), ((1, 0), 'open'))), (0, 0, 0, 1, 1, 1, 0, 0, 0, 0)]
"""

POINT_17 = r"""
>>> from leastlaid.reading import faults_of, read_program, read_row
>>> from leastlaid.rows import plain_text, row_of, statement_spans, words_of
>>> from leastlaid.trees import ends_in_fn, is_expression, is_program, level_of, wants_brackets
>>> program = read_program("let a = (x + 2) * -(f(y)[0].z);\nif not ready { give; } else if n { }")
>>> program[0]
('let', 'a', ('two', '*', ('two', '+', ('name', 'x'), ('number', '2')), ('minus', ('field', ('index', ('call', ('name', 'f'), (('name', 'y'),)), ('number', '0')), 'z'))))
>>> program[1]
('if', ('not', ('name', 'ready')), (('give', None),), ('if', ('name', 'n'), (), None))
>>> plain_text(program[:1])
'let a = ( x + 2 ) * - f ( y ) [ 0 ] . z ;'
>>> [len(row_of(program[:1])), statement_spans(program), read_program(plain_text(program)) == program]
[18, [(0, 18, 0, True), (18, 30, 0, False), (22, 24, 1, True), (26, 30, 0, False)], True]
>>> lone, more = ("fn", ("x",), ("name", "x")), ("name", "b")
>>> [level_of(lone), ends_in_fn(("two", "*", more, lone)), wants_brackets(("two", "*", ("two", "+", more, lone), more), "left")]
[10, True, True]
>>> [plain_text((("do", tree),)) for tree in [("two", "+", ("two", "*", more, lone), more), ("two", "^", ("minus", more), more), ("minus", ("two", "^", more, more))]]
['b * ( fn ( x ) -> x ) + b ;', '( - b ) ^ b ;', '- b ^ b ;']
>>> words_of((("do", ("two", "*", lone, more)),))[:3]
(('(', None), ('fn', 0), ('(', 1))
>>> [faults_of("let 1 = 2; f(a b); give"), faults_of("if a b { c }"), faults_of("a < b < c;"), faults_of("f(")]
[[((0, 4), 'name'), ((0, 15), ')'), ((0, 23), ';')], [((0, 5), '{')], [((0, 6), ';')], [((0, 1), 'open')]]
>>> [read_row(("give", "a", ";")), read_row(("give", "a")), is_expression(("number", "1.5")), is_program((("do", more),)), is_expression(("two", "not", more, more))]
[(('give', ('name', 'a')),), None, True, True, False]
"""

POINT_19 = r"""
>>> from leastlaid.owners import blank_lines, can_be_behind, owned, spans_lines, written
>>> from leastlaid.pages import bare, clipped, is_page, page_of, parted, text_of, put_together, same_page
>>> text = "# top\nlet x = 1; # one  \n\n\n<* two *>\nset x =\n  # sum\n  (x + 2);\n# end"
>>> owned(text)
[('# top', (0, 0), 0, 'ahead'), ('# one', (1, 11), 4, 'behind'), ('<* two *>', (4, 0), 5, 'ahead'), ('# sum', (6, 2), 8, 'ahead'), ('# end', (8, 0), 12, 'ahead')]
>>> page = page_of(text)
>>> page[0]
(('let', 'x', ('number', '1')), ('set', 'x', ('two', '+', ('name', 'x'), ('number', '2'))))
>>> page[1:]
({0: (('# top',), ()), 4: ((), ('# one',)), 5: (('<* two *>',), ()), 8: (('# sum',), ()), 12: (('# end',), ())}, {5: 2})
>>> [blank_lines(text), clipped(page, 1)[2], clipped(page, 0)[2], bare(page)[1:]]
[{5: 2, 12: 0}, {5: 1}, {}, ({}, {})]
>>> print(text_of(clipped(parted(page)[0][0][1], 3)))
# top
let
x
=
1
; # one
>>> parts, empty, comments = parted(page)
>>> [len(parts), parts[1][0], parts[1][1][1], empty, comments]
[2, 2, {0: (('<* two *>',), ()), 3: (('# sum',), ())}, 0, ('# end',)]
>>> [same_page(put_together(parts, empty, comments), page), page_of(text_of(page)) == page, is_page(page), is_page((page[0], {}, {0: 1}))]
[True, True, True, False]
>>> [can_be_behind(("<* a *>", "# b")), can_be_behind(("# b", "<* a *>")), written("# one  "), spans_lines("# one"), spans_lines("<* a\nb *>")]
[True, False, '# one', False, True]
>>> page_of("# alone")
((), {0: (('# alone',), ())}, {})
"""

POINT_22 = r"""
>>> from leastlaid.badness import badness_of, best_by_all, compared, over_of, ranked, sum_of
>>> from leastlaid.docs import choices_in, depth_of, flat_text, is_document, parts_in
>>> from leastlaid.layouts import all_layouts, broken_by, layout_by, ways_by, ways_to
>>> inner = ("nest", 2, ("row", (("line", ""), ("text", "alpha,"), ("line", " "), ("text", "beta"))))
>>> call = ("group", ("row", (("text", "call("), inner, ("line", ""), ("text", ")"))))
>>> [flat_text(call), parts_in(call), depth_of(call), choices_in(call), is_document(("nest", -1, call))]
['call(alpha, beta)', 11, 5, 1, False]
>>> all_layouts(call)
[((0,), 'call(alpha, beta)'), ((1,), 'call(\n  alpha,\n  beta\n)')]
>>> [badness_of(12, call, ()), badness_of(12, call, (1, 0, 1)), ways_by(call, (1, 0, 1)), broken_by(call, (1,))]
[(5, 0, 0), (0, 3, 1), (1,), 1]
>>> best_by_all(12, ("over", "lines", "broken"), call)
((0, 3, 1), (1,), 'call(\n  alpha,\n  beta\n)')
>>> best_by_all(12, ("lines", "over", "broken"), call)
((5, 0, 0), (0,), 'call(alpha, beta)')
>>> words = ("fill", (("text", "aa"), ("text", "bb"), ("text", "cc")))
>>> [best_by_all(5, ("over", "lines", "broken"), words), choices_in(words), ways_to(words, "aa\nbb cc"), ways_to(words, "aabb cc")]
[((0, 1, 0), (0, 1), 'aa bb\ncc'), 2, (1, 0), None]
>>> tall = ("align", ("choice", ("row", (("text", "a"), ("hard",), ("text", "b"))), ("text", "ab")))
>>> both = ("row", (("text", "x = "), tall, ("blank",), ("raw", ("'''p", "q'''"))))
>>> [layout_by(both, ()), layout_by(both, (1,)), flat_text(both), flat_text(tall), badness_of(5, both, (1,))]
["x = a\n    b\n\n'''p\nq'''", "x = ab\n\n'''p\nq'''", None, 'ab', (1, 3, 0)]
>>> [over_of("abcd\nab\nabc", 2), sum_of((1, 2, 0), (0, 1, 1)), ranked(("lines", "broken", "over"), (5, 0, 1)), compared(("over", "lines", "broken"), (0, 3, 1), (0, 3, 2))]
[3, (1, 3, 1), (0, 1, 5), -1]
"""

POINT_25 = r"""
>>> from leastlaid.judge import has_layout, is_best, is_table
>>> from leastlaid.stands import first_stand, moves
>>> from leastlaid.tables import best_moves, laid, least_badness, stands_of, table_of, text_by
>>> items = ("row", (("line", ""), ("text", "alpha,"), ("line", " "), ("text", "beta"), ("hard",)))
>>> flat = ("row", (("line", ""), ("text", "alpha,"), ("line", " "), ("text", "beta"), ("line", "")))
>>> call = ("group", ("row", (("text", "call("), ("nest", 2, flat[:1] + (flat[1][:4],)), ("line", ""), ("text", ")"))))
>>> rank = ("over", "lines", "broken")
>>> [laid(20, rank, call), laid(12, rank, call), least_badness(20, rank, call), least_badness(12, rank, call)]
['call(alpha, beta)', 'call(\n  alpha,\n  beta\n)', (0, 0, 0), (0, 3, 1)]
>>> [best_moves(20, rank, call), text_by(12, call, (0, 0)), has_layout(12, call, "call(alpha, beta)", (5, 0, 0))]
[(0, 0), ('call(alpha, beta)', (5, 0, 0)), True]
>>> [laid(12, ("lines", "broken", "over"), call), laid(12, rank, ("group", items)), laid(8, rank, ("align", items))]
['call(alpha, beta)', 'alpha,\nbeta\n', 'alpha,\nbeta\n']
>>> [len(moves(12, first_stand(call))), moves(12, first_stand(call))[1][:2], len(stands_of(12, call))]
[2, ('', (0, 0, 1)), 14]
>>> table = table_of(12, rank, call)
>>> [table[0] == (first_stand(call), (0, 3, 1)), is_table(12, rank, call, table), is_table(12, rank, call, table[::-1])]
[True, True, True]
>>> worse = ((first_stand(call), (0, 3, 0)),) + table[1:]
>>> [is_table(12, rank, call, worse), is_best(12, rank, call, "call(alpha, beta)", table), is_table(12, rank, call, ())]
[False, False, False]
>>> words = ("fill", (("text", "one"), ("text", "two"), ("text", "three"), ("text", "four")))
>>> [laid(9, rank, words), laid(9, rank, ("nest", 2, words)), laid(20, rank, ("row", (("text", "x "), ("align", ("raw", ("a", "b")))))) ]
['one two\nthree\nfour', '  one two\n  three\n  four', 'x a\nb']
"""

POINT_27 = r"""
>>> from leastlaid.styles import fitting, is_style, named, needed_width, plain_style, style_of, style_with
>>> from leastlaid.styletexts import laid, layer_between, layers_for, over, read_layer, same_style_paths, show_layer, style_for
>>> style, rank = plain_style(), ("lines", "over", "broken")
>>> [named(style)["rank"], style_of(named(style)) == style, needed_width("abc\nabcdefghi\n"), fitting(style, "abc\nabcdefghi\n")[0], fitting(style, "")[0]]
[('over', 'lines', 'broken'), True, 9, 9, 8]
>>> [style_with(style, "width", 40), style_with(style, "width", 7), is_style(style[:5]), is_style(style_with(style, "rank", rank))]
[(40, 4, 1, ('over', 'lines', 'broken'), 'behind', 'rows'), None, False, True]
>>> layer = read_layer("width=40 # narrow\n\n lists = fill\nrank = lines over broken")
>>> [layer, show_layer(layer)]
[{'lists': 'fill', 'rank': ('lines', 'over', 'broken'), 'width': 40}, 'width = 40\nrank = lines over broken\nlists = fill']
>>> [laid(style, layer), layer_between(style, laid(style, layer)) == layer, over(layer, {"width": 60})["width"]]
[(40, 4, 1, ('lines', 'over', 'broken'), 'behind', 'fill'), True, 60]
>>> layers = {"": {"width": 100}, "lib": {"step": 2}, "lib/old": {"width": 30}}
>>> [layers_for(layers, "lib/old/a.ll"), layers_for(layers, "library/a.ll"), style_for(style, layers, "lib/old/a.ll")[:2]]
[[('', {'width': 100}), ('lib', {'step': 2}), ('lib/old', {'width': 30})], [('', {'width': 100})], (30, 2)]
>>> same_style_paths(style, layers, ["lib/b", "a", "lib/a", "lib/old/a"])
[('a',), ('lib/a', 'lib/b'), ('lib/old/a',)]
"""

POINT_29 = r"""
>>> from leastlaid.formatting import formatted, formatted_page, is_paper, joined_shares, least_of, paper_of, shares_of
>>> from leastlaid.pages import page_of
>>> style = (30, 2, 1, ("over", "lines", "broken"), "ahead", "rows")
>>> text = "let total=alpha+beta*(gamma+delta)-epsilon;\n\n\n\n# go\nif total>0{give f(total,[1,2]);}else{}"
>>> print(formatted(text, style), end="")
let total = alpha
  + beta * (gamma + delta)
  - epsilon;

# go
if total > 0 {
  give f(total, [1, 2]);
} else {}
>>> [formatted(formatted(text, style), style) == formatted(text, style), page_of(formatted(text, style))[2], page_of(text)[2]]
[True, {13: 1}, {13: 3}]
>>> wide = (40, 4, 0, ("over", "lines", "broken"), "behind", "fill")
>>> print(formatted("set xs = [100, 200, 300, 400, 500, 600, 700, 800, 900];\nf(x # why\n, y);", wide), end="")
set xs = [
    100, 200, 300, 400, 500, 600, 700,
    800, 900
];
f(
    x # why
    ,
    y
);
>>> page = page_of(text)
>>> [len(shares_of(page, style)), joined_shares(page, style, shares_of(page, style)) == formatted(text, style), least_of(page, style)]
[2, True, (0, 8, 1)]
>>> paper = paper_of(page, style)
>>> [is_paper(page, style, formatted(text, style), paper), is_paper(page, style, formatted(text, style) + "\n", paper), is_paper(page, style, "", ())]
[True, False, False]
>>> [formatted("", style), formatted("# a\n\n# b", style), formatted("(fn(x)->x)(1)  ;", style)]
['', '# a\n# b\n', '(fn(x) -> x)(1);\n']
"""

POINT_32 = r"""
>>> from leastlaid.checker import check, is_formatted, report, touched_lines
>>> from leastlaid.edits import all_changed, changes_to, edits_of, gaps_of, items_of
>>> from leastlaid.ranges import bundles, format_bundles, format_lines, met
>>> style = (40, 2, 1, ("over", "lines", "broken"), "ahead", "fill")
>>> text = "let a=1;\n\n\nset  b = (2);# x\nf( a );let c=3;"
>>> [bundles(text), met(text, 1, 3), met(text, 1, 2)]
[[(0, 0, (0,)), (3, 3, (1,)), (4, 4, (2, 3))], (1,), ()]
>>> format_lines(text, style, 3, 3)
'let a=1;\n\nset b = 2; # x\nf( a );let c=3;'
>>> format_bundles(text, style, (0, 2))
'let a = 1;\n\n\nset  b = (2);# x\nf(a);\nlet c = 3;\n'
>>> whole = format_bundles(text, style, (0, 1, 2))
>>> whole
'let a = 1;\n\nset b = 2; # x\nf(a);\nlet c = 3;\n'
>>> [items_of(text)[9:13], gaps_of(text)[0], gaps_of(text)[8], len(edits_of(text, style)), edits_of(text, style)[4]]
[(';', '# x', 'f', '('), (0, 0), (19, 21), 13, (19, 21, ' ')]
>>> [all_changed(text, edits_of(text, style)) == whole, changes_to(text, "let a = 1;"), changes_to("f (a);", "f(a)  ;")]
[True, None, [(1, 2, ''), (5, 5, '  ')]]
>>> [check(text, style)[0], check(text, style)[4], report(text, style)[4], touched_lines(text, style)]
[((0, 5), 'blanks', ' '), ((3, 8), 'brackets', ' '), '4:9: brackets', (0, 1, 2, 3, 4)]
>>> [is_formatted(whole, style), check(whole, style), check("let 1;", style), report("let 1;", style), is_formatted("let 1;", style)]
[True, [], [((0, 4), 'fault', 'name')], ['1:5: fault name'], False]
"""

POINT_34 = r"""
>>> from leastlaid.changes import back_of, change_between, changed, changed_by
>>> from leastlaid.keeper import Keeper
>>> [changed("let a=1;", (4, 5, "ab")), changed_by("ab", [(0, 1, ""), (1, 1, "cc")]), change_between("one two", "one three two")]
['let ab=1;', 'bcc', (5, 5, 'hree t')]
>>> [back_of("let a=1;", (4, 5, "ab")), change_between("same", "same"), change_between("aa", "a")]
[(4, 6, 'a'), (4, 4, ''), (1, 2, '')]
>>> style = (40, 2, 1, ("over", "lines", "broken"), "ahead", "fill")
>>> keeper = Keeper("let a=1;\nset a=a+1;", style)
>>> [keeper.formatted(), keeper.laid_out(), keeper.faults()]
['let a = 1;\nset a = a + 1;\n', 2, ()]
>>> [keeper.change((9, 9, "\n\n\n# up\n")), keeper.formatted(), keeper.laid_out()]
[None, 'let a = 1;\n\n# up\nset a = a + 1;\n', 3]
>>> [keeper.change((0, 0, "let a = 1; ")), keeper.laid_out(), keeper.formatted()[:22], keeper.undo(), keeper.undo(), keeper.laid_out()]
[None, 3, 'let a = 1;\nlet a = 1;\n', None, None, 3]
>>> [keeper.change((0, 3, "(")), keeper.last_formatted() == "let a = 1;\nset a = a + 1;\n", len(keeper.faults()) > 0, keeper == keeper.twin()]
[None, True, True, True]
"""

POINT_35 = r"""
>>> from leastlaid.project import Project, after_writes, bad_styles, layers_in, style_at, wanted_files, words_for, writes_for
>>> style = (80, 4, 1, ("over", "lines", "broken"), "behind", "rows")
>>> files = {"a": "let x=1;", "lib/b": "if x{f();}", "lib/c": "let", "lib/style": "step = 2", "old/style": "step = 9", "d": "give;\n"}
>>> [layers_in(files), bad_styles(files), style_at(files, style, "lib/b")[:2]]
[{'lib': {'step': 2}}, [('old/style', 0)], (80, 2)]
>>> words_for(files, style)
{'a': 'changed', 'd': 'same', 'lib/b': 'changed', 'lib/c': 'faulty', 'lib/style': 'style', 'old/style': 'bad'}
>>> writes = writes_for(files, style)
>>> writes
[('a', 'let x = 1;\n'), ('lib/b', 'if x {\n  f();\n}\n')]
>>> half = after_writes(files, writes, 1)
>>> [writes_for(half, style) == writes[1:], after_writes(half, writes_for(half, style), 9) == wanted_files(files, style)]
[True, True]
>>> project = Project(files, style)
>>> [project.left(), project.run(1), project.word("a"), project.put("lib/c", "let y = 2;\n"), project.run(9), project.left()]
[2, ['a'], 'same', None, ['lib/b'], 0]
>>> [project.drop("lib/style"), project.word("lib/b"), project.run(9), project.files()["lib/b"]]
[None, 'changed', ['lib/b'], 'if x {\n    f();\n}\n']
"""

POINT_36 = r"""
>>> from leastlaid.desk import Desk
>>> style = (20, 2, 1, ("over", "lines", "broken"), "ahead", "rows")
>>> desk = Desk({"old/style": "width = 60"}, style)
>>> [desk.execute("put a let x=alpha+beta+gamma; # sum"), desk.execute("put old/b f(1,\\n2);"), desk.execute("words")]
[['done'], ['done'], ['a changed', 'old/b changed', 'old/style style']]
>>> [desk.execute("want a"), desk.execute("worse a"), desk.execute("notes a"), desk.execute("show old/b")]
[['let x = alpha', '  + beta', '  + gamma; # sum', ''], ['0 3 1 1'], ['0 24 behind 8'], ['f(1,', '2);']]
>>> [desk.execute("style old/b")[0], desk.execute("style a")[0], desk.execute("run 1"), desk.execute("left"), desk.execute("words")[0]]
['width = 60', 'width = 20', ['a'], ['1'], 'a same']
>>> [desk.execute("edit a 4 5 total"), desk.execute("show a")[0], desk.execute("range old/b 0 0"), desk.execute("show old/b"), desk.execute("run 9")]
[['done'], 'let total = alpha', ['done'], ['f(1, 2);', ''], []]
>>> [desk.execute("put c give"), desk.execute("words")[1], desk.execute("check a"), desk.twin() == desk, desk.execute("drop c"), desk.project().left()]
[['done'], 'c faulty', [], True, ['done'], 0]
"""
