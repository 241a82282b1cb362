"""Documents for tests: of each sort, and any many by a seed."""

import itertools
import random

from tests import plain_docs

RANKS = tuple(itertools.permutations(("over", "lines", "broken")))
LEAVES = (
    ("text", ""), ("text", "a"), ("text", "  "), ("text", " b c "), ("text", "abcdefghij"),
    ("line", ""), ("line", " "), ("hard",), ("blank",), ("gap",),
    ("raw", ("a", "b")), ("raw", ("", "")), ("raw", ("  ", " c", "")), ("raw", ("d", "", " ")),
    ("fill", ()), ("row", ()),
)
A, B, C = ("text", "a"), ("text", "bb"), ("text", "ccc")


def wrappers():
    """Functions that make a document of another one, one for each place where one can stand."""
    return [
        lambda one: ("nest", 0, one),
        lambda one: ("nest", 3, one),
        lambda one: ("align", one),
        lambda one: ("group", one),
        lambda one: ("choice", one, B),
        lambda one: ("choice", B, one),
        lambda one: ("fill", (one,)),
        lambda one: ("fill", (one, B)),
        lambda one: ("fill", (A, one, B)),
        lambda one: ("fill", (A, one)),
        lambda one: ("row", (one,)),
        lambda one: ("row", (one, B)),
        lambda one: ("row", (A, one)),
        lambda one: ("row", (A, ("line", " "), one, ("hard",), B)),
    ]


def small_ones():
    """Many small documents: each leaf, each within one or two wrappers, and two leaves beside one another."""
    found = list(LEAVES)
    found += [put(leaf) for put in wrappers() for leaf in LEAVES]
    found += [put(other(leaf)) for put in wrappers() for other in wrappers() for leaf in LEAVES]
    found += [(sort, (one, other)) for sort in ("row", "fill") for one in LEAVES for other in LEAVES]
    found += [("choice", one, other) for one in LEAVES for other in LEAVES]
    found += [("nest", 2, ("row", (("text", "x"), one, other, ("text", "y")))) for one in LEAVES for other in LEAVES]
    found += [("group", ("row", (("text", "xy"), ("align", ("row", (one, other))), B)))
              for one in LEAVES for other in LEAVES]
    return found


def any_document(source, deep):
    """A document, by a source of random numbers, of at most some depth."""
    if deep <= 1 or source.random() < 0.1:
        word = "".join(source.choice("ab ") for _ in range(source.randrange(7)))
        return source.choice(LEAVES[5:] + (("text", word),) * 9)
    sort = source.choice(("nest", "align", "group", "group", "choice", "fill", "fill", "row", "row", "row", "row"))
    if sort == "nest":
        return ("nest", source.randrange(5), any_document(source, deep - 1))
    if sort in ("align", "group"):
        return (sort, any_document(source, deep - 1))
    if sort == "choice":
        return ("choice", any_document(source, deep - 1), any_document(source, deep - 1))
    return (sort, tuple(any_document(source, deep - 1) for _ in range(source.randrange(5))))


def any_many(seed, many, most=8, deep=5):
    """A list of any many documents with at most some choices, the same for the same seed."""
    source = random.Random(seed)
    found = []
    while len(found) < many:
        document = any_document(source, deep)
        if plain_docs.choices(document) <= most and plain_docs.parts(document) > 3:
            found.append(document)
    return found


def nested(many, document):
    """A document in many others, none of which changes what is written or adds a choice."""
    for at in range(many):
        document = [("nest", 0, document), ("row", (document,)), ("fill", (document,))][at % 3]
    return document


# As many parts as point 4 bounds, most of them leaves; forty deep; with twelve choices, some of them ahead of all else.
LONG = ("row", (("fill", (A, B, C, A, B, C, A, B)),) + tuple(
    ("hard",) if at % 7 == 3 else ("text", "abc"[at % 3:]) for at in range(577)) + (
    ("group", ("align", ("row", (("text", "("), ("line", ""), ("text", ")"))))),
    ("choice", A, ("hard",)), ("gap",), ("choice", B, ("gap",))))
DEEP = nested(32, ("group", ("align", ("nest", 2, ("choice", ("align", ("row", (A, ("group", ("line", "")), B))), C)))))
# Some more than 20,000 stands: each choice makes more columns, and each text stands at all of them.
WIDE = ("row", tuple(("choice", ("text", "x" * 2 ** at), ("text", "")) for at in range(9)) + (A,) * 60)
