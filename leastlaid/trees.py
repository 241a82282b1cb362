"""Trees: what they are made of, their levels, and which operands need grouping brackets."""

from leastlaid.words import is_name, kind_of

STATEMENTS = ("let", "set", "give", "do", "if", "while", "for", "def")
CONSTANTS = ("true", "false", "none")
# What the parts of each tree have to be, behind the word that it begins with.
PARTS = {
    "number": ("number",),
    "quote": ("quote",),
    "raw": ("raw",),
    "name": ("name",),
    "word": ("constant",),
    "list": ("expressions",),
    "map": ("pairs",),
    "fn": ("names", "expression"),
    "call": ("expression", "expressions"),
    "index": ("expression", "expression"),
    "field": ("expression", "name"),
    "not": ("expression",),
    "minus": ("expression",),
    "two": ("operator", "expression", "expression"),
    "let": ("name", "expression"),
    "set": ("name", "expression"),
    "give": ("perhaps",),
    "do": ("expression",),
    "if": ("expression", "block", "other"),
    "while": ("expression", "block"),
    "for": ("name", "expression", "block"),
    "def": ("name", "names", "block"),
}

OPERATORS = {
    "or": 1, "and": 2,
    "==": 4, "!=": 4, "<": 4, "<=": 4, ">": 4, ">=": 4,
    "+": 5, "-": 5, "*": 6, "/": 6, "^": 8,
}
LEVELS = {"not": 3, "minus": 7, "call": 9, "index": 9, "field": 9}
# The least levels that may stand beside an operator without grouping brackets, by its own level.
LEAST_LEFT = {1: 1, 2: 2, 4: 5, 5: 5, 6: 6, 8: 9}
LEAST_RIGHT = {1: 2, 2: 3, 4: 5, 5: 6, 6: 7, 8: 7}


def _parts_of_tree(sort, thing):
    """Return the parts of a statement or an expression with what each has to be, None if it is none."""
    if not isinstance(thing, tuple) or len(thing) == 0 or not isinstance(thing[0], str):
        return None
    sorts = PARTS.get(thing[0])
    if sorts is None or len(sorts) != len(thing) - 1:
        return None
    if (thing[0] in STATEMENTS) != (sort == "statement"):
        return None
    return list(zip(sorts, thing[1:]))


def _parts_of_tuple(sort, thing):
    """Return the parts of a tuple of trees with what each has to be, None if it is none."""
    if not isinstance(thing, tuple):
        return None
    if sort == "block":
        return [("statement", part) for part in thing]
    if sort == "expressions":
        return [("expression", part) for part in thing]
    if not all([isinstance(part, tuple) and len(part) == 2 for part in thing]):
        return None
    return [("expression", part) for pair in thing for part in pair]


def _is_word(sort, thing):
    """Tell whether a part without trees in it is what it has to be."""
    if sort == "constant":
        return thing in CONSTANTS
    if sort == "operator":
        return isinstance(thing, str) and thing in OPERATORS
    if sort == "names":
        return isinstance(thing, tuple) and all([is_name(part) for part in thing])
    return kind_of(thing) == sort


def is_if(other):
    """Tell whether the other of an if statement is an if statement, not a block."""
    return other[:1] == ("if",)


def _parts_of(sort, thing):
    """Return the trees in a part with what each has to be, None if the part is not what it has to be."""
    if sort in ("expression", "statement"):
        return _parts_of_tree(sort, thing)
    if sort in ("block", "expressions", "pairs"):
        return _parts_of_tuple(sort, thing)
    if sort in ("perhaps", "other") and thing is None:
        return []
    if sort == "perhaps":
        return [("expression", thing)]
    if sort == "other":
        return [("statement" if isinstance(thing, tuple) and is_if(thing) else "block", thing)]
    return [] if _is_word(sort, thing) else None


def _is_tree(sort, thing):
    """Tell whether any value is a tree of a sort.

    It keeps what is still to be looked at in a list, as trees may be deeper than calls may be.
    """
    todo = [(sort, thing)]
    while todo:
        now, part = todo.pop()
        parts = _parts_of(now, part)
        if parts is None:
            return False
        todo.extend(parts)
    return True


def is_expression(thing):
    """Tell whether any value is the TREE of an expression."""
    return _is_tree("expression", thing)


def is_statement(thing):
    """Tell whether any value is the TREE of a statement."""
    return _is_tree("statement", thing)


def is_program(thing):
    """Tell whether any value is a PROGRAM, or a block."""
    return _is_tree("block", thing)


def _inner_statements(statement):
    """Return the statements that stand directly in a statement, an if statement behind else among them."""
    if statement[0] in ("while", "for", "def"):
        return list(statement[-1])
    if statement[0] != "if":
        return []
    block, other = statement[2], statement[3]
    if other is None:
        return list(block)
    return list(block) + ([other] if is_if(other) else list(other))


def statements_in(program):
    """Return the list of all statements of a program, in the order of the row."""
    found = []
    todo = list(program[::-1])
    while todo:
        statement = todo.pop()
        found.append(statement)
        todo.extend(_inner_statements(statement)[::-1])
    return found


def level_of(expression):
    """Return the LEVEL of an expression."""
    if expression[0] == "two":
        return OPERATORS[expression[1]]
    return LEVELS.get(expression[0], 10)


def operands(expression):
    """Return the tuple of the sides of an expression with the operands that stand there."""
    if expression[0] == "two":
        return ("left", expression[2]), ("right", expression[3])
    if expression[0] in ("not", "minus"):
        return (("inside", expression[1]),)
    if expression[0] in ("call", "index", "field"):
        return (("head", expression[1]),)
    return ()


def _least_level(expression, side):
    """Return the least level that may stand at a side of an expression without grouping brackets."""
    level = level_of(expression)
    if side == "left":
        return LEAST_LEFT[level]
    if side == "right":
        return LEAST_RIGHT[level]
    # At a head and inside of "not" and "minus" the level of the expression itself may stand.
    return level


def operand_at(expression, side):
    """Return the operand at a side of an expression."""
    return [operand for place, operand in operands(expression) if place == side][0]


def wants_brackets(expression, side):
    """Tell whether the level of the operand at a side is less than may stand there."""
    return level_of(operand_at(expression, side)) < _least_level(expression, side)


def ends_in_fn(expression):
    """Tell whether an expression ENDS IN FN."""
    tree = expression
    while tree[0] in ("two", "not", "minus"):
        side = "right" if tree[0] == "two" else "inside"
        if wants_brackets(tree, side):
            return False
        tree = operand_at(tree, side)
    return tree[0] == "fn"
