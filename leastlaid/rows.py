"""Rows: the words of a program, in order.

PIECES are tuples (what, thing): ("word", word), ("bracket", sign) for a grouping bracket,
("begin", (depth, is_first)) and ("end", None) round the words of a statement; and what is
still to be told by such: ("expression", (tree, goes_on)) and ("statement", (tree, depth, is_first)).
An expression goes on if directly behind it stands what an fn at its end must not take.
"""

from leastlaid.trees import is_if, operand_at, wants_brackets


def _words(*words):
    """Return the pieces of some words."""
    return [("word", word) for word in words]


def _alone(tree):
    """Return the pieces of an expression behind which nothing goes on with it."""
    return [("expression", (tree, False))]


def _listed(parts):
    """Return the pieces of some parts, each of them pieces, with commas between."""
    found = []
    for part in parts:
        if found:
            found.extend(_words(","))
        found.extend(part)
    return found


def _in_groups(pieces):
    """Return some pieces in grouping brackets."""
    return [("bracket", "(")] + pieces + [("bracket", ")")]


def _operand(expression, side, goes_on):
    """Return the pieces of the operand at a side, in grouping brackets if it wants them."""
    operand = operand_at(expression, side)
    if wants_brackets(expression, side):
        return _in_groups(_alone(operand))
    return [("expression", (operand, goes_on))]


def _of_word(tree, _):
    return _words(tree[1])


def _of_list(tree, _):
    return _words("[") + _listed([_alone(item) for item in tree[1]]) + _words("]")


def _of_map(tree, _):
    pairs = [_alone(key) + _words(":") + _alone(value) for key, value in tree[1]]
    return _words("{") + _listed(pairs) + _words("}")


def _of_fn(tree, goes_on):
    names = _listed([_words(name) for name in tree[1]])
    pieces = _words("fn", "(") + names + _words(")", "->") + _alone(tree[2])
    return _in_groups(pieces) if goes_on else pieces


def _of_call(tree, _):
    arguments = _listed([_alone(argument) for argument in tree[2]])
    return _operand(tree, "head", True) + _words("(") + arguments + _words(")")


def _of_index(tree, _):
    return _operand(tree, "head", True) + _words("[") + _alone(tree[2]) + _words("]")


def _of_field(tree, _):
    return _operand(tree, "head", True) + _words(".", tree[2])


def _of_not(tree, goes_on):
    return _words("not") + _operand(tree, "inside", goes_on)


def _of_minus(tree, goes_on):
    return _words("-") + _operand(tree, "inside", goes_on)


def _of_two(tree, goes_on):
    return _operand(tree, "left", True) + _words(tree[1]) + _operand(tree, "right", goes_on)


def _block(block, depth):
    """Return the pieces of a block that stands in some blocks."""
    inside = [("statement", (statement, depth + 1, at == 0)) for at, statement in enumerate(block)]
    return _words("{") + inside + _words("}")


def _of_assignment(statement, _):
    return _words(statement[0], statement[1], "=") + _alone(statement[2]) + _words(";")


def _of_give(statement, _):
    given = [] if statement[1] is None else _alone(statement[1])
    return _words("give") + given + _words(";")


def _of_do(statement, _):
    return _alone(statement[1]) + _words(";")


def _of_if(statement, depth):
    other = statement[3]
    pieces = _words("if") + _alone(statement[1]) + _block(statement[2], depth)
    if other is None:
        return pieces
    if is_if(other):
        return pieces + _words("else") + [("statement", (other, depth, False))]
    return pieces + _words("else") + _block(other, depth)


def _of_while(statement, depth):
    return _words("while") + _alone(statement[1]) + _block(statement[2], depth)


def _of_for(statement, depth):
    return _words("for", statement[1], "in") + _alone(statement[2]) + _block(statement[3], depth)


def _of_def(statement, depth):
    names = _listed([_words(name) for name in statement[2]])
    return _words("def", statement[1], "(") + names + _words(")") + _block(statement[3], depth)


# How each tree is told by pieces: of expressions by whether they go on, of statements by their depth.
TELLERS = {
    "number": _of_word,
    "quote": _of_word,
    "raw": _of_word,
    "name": _of_word,
    "word": _of_word,
    "list": _of_list,
    "map": _of_map,
    "fn": _of_fn,
    "call": _of_call,
    "index": _of_index,
    "field": _of_field,
    "not": _of_not,
    "minus": _of_minus,
    "two": _of_two,
    "let": _of_assignment,
    "set": _of_assignment,
    "give": _of_give,
    "do": _of_do,
    "if": _of_if,
    "while": _of_while,
    "for": _of_for,
    "def": _of_def,
}


def _told(what, thing):
    """Return the pieces that tell a statement or an expression."""
    tell = TELLERS[thing[0][0]]
    if what == "expression":
        return tell(thing[0], thing[1])
    statement, depth, is_first = thing
    return [("begin", (depth, is_first))] + tell(statement, depth) + [("end", None)]


def _pieces(program):
    """Return the pieces of a program, all of them told.

    It keeps what is still to be told in a list, as trees may be deeper than calls may be.
    """
    todo = [("statement", (statement, 0, at == 0)) for at, statement in enumerate(program)][::-1]
    found = []
    while todo:
        what, thing = todo.pop()
        if what in ("statement", "expression"):
            todo.extend(_told(what, thing)[::-1])
        else:
            found.append((what, thing))
    return found


def row_of(program):
    """Return the ROW of a program."""
    return tuple([thing for what, thing in _pieces(program) if what == "word"])


def words_of(program):
    """Return all words of a program with their indexes in the ROW, None for grouping brackets."""
    found = []
    many = 0
    for what, thing in _pieces(program):
        if what == "word":
            found.append((thing, many))
            many += 1
        elif what == "bracket":
            found.append((thing, None))
    return tuple(found)


def plain_text(program):
    """Return the words of a program with one blank between them."""
    return " ".join([word for word, _ in words_of(program)])


def statement_spans(program):
    """Return the list of the begin, the end, the depth of each statement, and whether it is a first one."""
    begun = []
    ends = {}
    still_open = []
    many = 0
    for what, thing in _pieces(program):
        if what == "word":
            many += 1
        elif what == "begin":
            still_open.append(len(begun))
            begun.append((many, thing))
        elif what == "end":
            ends[still_open.pop()] = many
    return [(begin, ends[at], depth, is_first) for at, (begin, (depth, is_first)) in enumerate(begun)]
