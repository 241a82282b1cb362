"""Pieces: the words of a program in order, with what they are laid out by.

A PIECE is a tuple (what, thing): ("word", word) for a word of the ROW; ("bracket", sign) for a grouping
bracket; ("begin", (depth, is_first)) and ("end", None) round the pieces of a statement; and for documents
("space", None) for a BLANK, ("beside", side) for what stands ahead of or behind the operator of a CHAIN,
("hard", None), ("apart", None) between two statements, and ("open", None) and ("close", form) round what
is made to one document. What is still to be told by such is told by ("expression", (tree, goes_on)) and
("statement", (tree, depth, is_first)).
An expression goes on if directly behind it stands what an fn at its end must not take.
"""

from leastlaid.trees import is_if, level_of, operand_at, wants_brackets

SPACE = ("space", None)
HARD = ("hard", None)


def _words(*words):
    """Return the pieces of some words."""
    return [("word", word) for word in words]


def _alone(tree):
    """Return the pieces of an expression behind which nothing goes on with it."""
    return [("expression", (tree, False))]


def _made(form, pieces):
    """Return some pieces of which one document of some form is made."""
    return [("open", None)] + pieces + [("close", form)]


def _in_groups(pieces):
    """Return some pieces in grouping brackets."""
    return [("bracket", "(")] + pieces + [("bracket", ")")]


def _names(names):
    """Return the pieces of the names of an fn or a def in their brackets."""
    listed = [piece for name in names for piece in _words(",") + [SPACE] + _words(name)]
    # The first comma and its blank are none.
    return _words("(") + listed[2:] + _words(")")


def _bracketed(opening, items, closing):
    """Return the pieces of some items, each of them pieces, between two brackets."""
    if not items:
        return _words(opening, closing)
    parts = [item + _words(",") for item in items[:-1]] + items[-1:]
    listed = [piece for part in parts for piece in _made("row", part)]
    return _words(opening) + _made("items", listed) + _words(closing)


def _operand(expression, side, goes_on):
    """Return the pieces of the operand at a side, in grouping brackets if it wants them."""
    operand = operand_at(expression, side)
    if wants_brackets(expression, side):
        return _in_groups(_alone(operand))
    return [("expression", (operand, goes_on))]


def _of_word(tree, _):
    return _words(tree[1])


def _of_list(tree, _):
    return _bracketed("[", [_alone(item) for item in tree[1]], "]")


def _of_map(tree, _):
    return _bracketed("{", [_alone(key) + _words(":") + [SPACE] + _alone(value) for key, value in tree[1]], "}")


def _of_fn(tree, goes_on):
    pieces = _words("fn") + _names(tree[1]) + [SPACE] + _words("->") + [SPACE] + _alone(tree[2])
    return _in_groups(pieces) if goes_on else pieces


def _of_call(tree, _):
    return _operand(tree, "head", True) + _bracketed("(", [_alone(argument) for argument in tree[2]], ")")


def _of_index(tree, _):
    return _operand(tree, "head", True) + _bracketed("[", [_alone(tree[2])], "]")


def _of_field(tree, _):
    return _operand(tree, "head", True) + _words(".", tree[2])


def _of_not(tree, goes_on):
    return _words("not") + [SPACE] + _operand(tree, "inside", goes_on)


def _of_minus(tree, goes_on):
    return _words("-") + _operand(tree, "inside", goes_on)


def _chained(tree):
    """Return the list of the expressions of a CHAIN, each but the first one with the one ahead of it at its left."""
    level = level_of(tree)
    found = [tree]
    # At the left of one of level 4 another one of it wants brackets, so it is no part of the chain.
    while level != 4 and level_of(found[-1][2]) == level:
        found.append(found[-1][2])
    return found[::-1]


def _of_two(tree, goes_on):
    if tree[1] == "^":
        right = _operand(tree, "right", goes_on)
        return _operand(tree, "left", True) + [SPACE] + _words(tree[1]) + [SPACE] + right
    links = _chained(tree)
    others = []
    for at, link in enumerate(links):
        is_last = at == len(links) - 1
        others.extend([("beside", "ahead"), ("word", link[1]), ("beside", "behind")])
        others.extend(_operand(link, "right", goes_on if is_last else True))
    return _made("group", _operand(links[0], "left", True) + _made("nest", others))


def _value(tree):
    """Return the pieces of an expression that stands behind the words of a statement, or below them."""
    return _made("value", _alone(tree))


def _statements(block, depth):
    """Return the pieces of the statements of a block, or a program, that stand in so many blocks."""
    found = []
    for at, statement in enumerate(block):
        if at > 0:
            found.append(("apart", None))
        found.append(("statement", (statement, depth, at == 0)))
    return found


def _block(block, depth):
    """Return the pieces of a block that stands in some blocks."""
    if not block:
        return _words("{", "}")
    return _words("{") + _made("nest", [HARD] + _statements(block, depth + 1)) + [HARD] + _words("}")


def _of_assignment(statement, _):
    head = _words(statement[0]) + [SPACE] + _words(statement[1]) + [SPACE] + _words("=")
    return head + _value(statement[2]) + _words(";")


def _of_give(statement, _):
    given = [] if statement[1] is None else _value(statement[1])
    return _words("give") + given + _words(";")


def _of_do(statement, _):
    return _alone(statement[1]) + _words(";")


def _of_if(statement, depth):
    other = statement[3]
    pieces = _words("if") + [SPACE] + _alone(statement[1]) + [SPACE] + _block(statement[2], depth)
    if other is None:
        return pieces
    pieces = pieces + [SPACE] + _words("else") + [SPACE]
    if is_if(other):
        return pieces + [("statement", (other, depth, False))]
    return pieces + _block(other, depth)


def _of_while(statement, depth):
    return _words("while") + [SPACE] + _alone(statement[1]) + [SPACE] + _block(statement[2], depth)


def _of_for(statement, depth):
    head = _words("for") + [SPACE] + _words(statement[1]) + [SPACE] + _words("in") + [SPACE]
    return head + _alone(statement[2]) + [SPACE] + _block(statement[3], depth)


def _of_def(statement, depth):
    head = _words("def") + [SPACE] + _words(statement[1]) + _names(statement[2]) + [SPACE]
    return head + _block(statement[3], depth)


# How each tree is told by pieces: of expressions by whether they go on, of statements by their depth.
TELLERS = {
    "number": _of_word,
    "quote": _of_word,
    "raw": _of_word,
    "name": _of_word,
    "word": _of_word,
    "list": _of_list,
    "map": _of_map,
    "fn": _of_fn,
    "call": _of_call,
    "index": _of_index,
    "field": _of_field,
    "not": _of_not,
    "minus": _of_minus,
    "two": _of_two,
    "let": _of_assignment,
    "set": _of_assignment,
    "give": _of_give,
    "do": _of_do,
    "if": _of_if,
    "while": _of_while,
    "for": _of_for,
    "def": _of_def,
}


def _told(what, thing):
    """Return the pieces that tell a statement or an expression."""
    tell = TELLERS[thing[0][0]]
    if what == "expression":
        return tell(thing[0], thing[1])
    statement, depth, is_first = thing
    return [("begin", (depth, is_first))] + tell(statement, depth) + [("end", None)]


def pieces_of(program):
    """Return the list of the pieces of a program, all of them told.

    It keeps what is still to be told in a list, as trees may be deeper than calls may be.
    """
    todo = _statements(program, 0)[::-1]
    found = []
    while todo:
        what, thing = todo.pop()
        if what in ("statement", "expression"):
            todo.extend(_told(what, thing)[::-1])
        else:
            found.append((what, thing))
    return found
