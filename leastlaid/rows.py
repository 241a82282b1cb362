"""Rows: the words of a program, in order."""

from leastlaid.pieces import pieces_of


def row_of(program):
    """Return the ROW of a program."""
    return tuple([thing for what, thing in pieces_of(program) if what == "word"])


def words_of(program):
    """Return all words of a program with their indexes in the ROW, None for grouping brackets."""
    found = []
    many = 0
    for what, thing in pieces_of(program):
        if what == "word":
            found.append((thing, many))
            many += 1
        elif what == "bracket":
            found.append((thing, None))
    return tuple(found)


def plain_text(program):
    """Return the words of a program with one blank between them."""
    return " ".join([word for word, _ in words_of(program)])


def statement_spans(program):
    """Return the list of the begin, the end, the depth of each statement, and whether it is a first one."""
    begun = []
    ends = {}
    still_open = []
    many = 0
    for what, thing in pieces_of(program):
        if what == "word":
            many += 1
        elif what == "begin":
            still_open.append(len(begun))
            begun.append((many, thing))
        elif what == "end":
            ends[still_open.pop()] = many
    return [(begin, ends[at], depth, is_first) for at, (begin, (depth, is_first)) in enumerate(begun)]
