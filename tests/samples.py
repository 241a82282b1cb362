"""Programs and texts for tests: of each sort, and any many by a seed."""

import random

A, B, ONE = ("name", "a"), ("name", "b"), ("number", "1")
OPERATORS = ("or", "and", "==", "!=", "<", "<=", ">", ">=", "+", "-", "*", "/", "^")
SINGLES = (
    ONE, ("number", "1.5"), ("quote", '"q\\n"'), ("raw", "'''r\n'''"), A,
    ("word", "true"), ("word", "false"), ("word", "none"),
)


def wrappers():
    """Functions that make an expression of another one, one for each place where one can stand."""
    found = [lambda tree, o=operator: ("two", o, tree, B) for operator in OPERATORS]
    found += [lambda tree, o=operator: ("two", o, B, tree) for operator in OPERATORS]
    found += [
        lambda tree: ("not", tree),
        lambda tree: ("minus", tree),
        lambda tree: ("call", tree, ()),
        lambda tree: ("call", B, (B, tree)),
        lambda tree: ("index", tree, B),
        lambda tree: ("index", B, tree),
        lambda tree: ("field", tree, "z"),
        lambda tree: ("fn", ("x", "y"), tree),
        lambda tree: ("list", (tree, B)),
        lambda tree: ("map", ((tree, B),)),
        lambda tree: ("map", ((B, tree), (B, B))),
    ]
    return found


def statements_with(tree):
    """A statement for each place of one where an expression can stand."""
    return [
        ("let", "v", tree), ("set", "v", tree), ("give", tree), ("do", tree),
        ("if", tree, (), None), ("while", tree, ()), ("for", "v", tree, ()),
    ]


def statements_around(block):
    """A statement for each place of one where a block can stand."""
    return [
        ("if", A, block, None), ("if", A, (), block), ("if", A, block, block),
        ("if", A, block, ("if", B, block, None)), ("if", A, (), ("if", B, (), block)),
        ("while", A, block), ("for", "v", A, block), ("def", "f", ("x",), block), ("def", "f", (), block),
    ]


def any_expression(source, deep):
    """An expression, by a source of random numbers, of at most some depth."""
    if deep <= 0 or source.random() < 0.2:
        return source.choice(SINGLES)
    sort = source.choice(("two", "two", "two", "not", "minus", "fn", "call", "index", "field", "list", "map"))
    if sort == "two":
        sides = any_expression(source, deep - 1), any_expression(source, deep - 1)
        return ("two", source.choice(OPERATORS)) + sides
    inside = any_expression(source, deep - 1)
    many = [any_expression(source, deep - 2) for _ in range(source.randrange(3))]
    return {
        "not": ("not", inside),
        "minus": ("minus", inside),
        "fn": ("fn", ("x", "y")[:source.randrange(3)], inside),
        "call": ("call", inside, tuple(many)),
        "index": ("index", inside, any_expression(source, deep - 2)),
        "field": ("field", inside, "z"),
        "list": ("list", tuple(many)),
        "map": ("map", tuple((part, inside) for part in many)),
    }[sort]


def any_statement(source, deep):
    """A statement likewise."""
    tree = any_expression(source, source.randrange(4))
    if deep <= 0 or source.random() < 0.5:
        return source.choice(statements_with(tree) + [("give", None)])
    return source.choice(statements_around(any_block(source, deep - 1)))


def any_block(source, deep):
    """A block, or a program, likewise."""
    return tuple(any_statement(source, deep) for _ in range(source.randrange(4)))


def programs(seed, many, deep=3):
    """A list of any many programs, the same for the same seed."""
    source = random.Random(seed)
    return [any_block(source, deep) for _ in range(many)]


def expressions_in(tree):
    """All expressions in a tree, itself among them, each with the function that puts another one there."""
    if tree and isinstance(tree[0], str) and tree[0] not in ("let", "set", "give", "do", "if", "while", "for", "def"):
        yield tree, lambda other: other
    for at, part in enumerate(tree):
        if isinstance(part, tuple):
            for inner, put in expressions_in(part):
                yield inner, lambda other, at=at, put=put: tree[:at] + (put(other),) + tree[at + 1:]


EXTRA = ('"', "'''", "<*", "*>", "!", "'", "\\")
WORDS = (
    "let", "set", "give", "if", "else", "while", "for", "in", "def", "fn", "and", "or", "not", "true",
    "a", "b", "1", '"q"', "(", ")", "[", "]", "{", "}", ",", ";", ":", ".", "=", "==", "<", "+", "-", "*", "^", "->",
)


def paired_words(source, size):
    """Words with whose brackets are pairs, otherwise any."""
    found = []
    while len(found) < size:
        word = source.choice(WORDS)
        if word in "([{":
            closing = {"(": ")", "[": "]", "{": "}"}[word]
            found += [word] + paired_words(source, source.randrange(5)) + [closing]
        elif word not in ")]}":
            found.append(word)
    return found
