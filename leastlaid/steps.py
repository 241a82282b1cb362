"""Steps: how what is laid out first goes on.

A STEP is a tuple (written, column, left, broken): what is written, the column behind it, the tuple of
what is left, each an (indent, document), and 1 for a BROKEN move, 0 for all others. What stands in
the document is only handed on, so it may be told by numbers instead.
"""


def _written(column, indent, string):
    """Return what is written of a string, and the column behind it."""
    if column is not None:
        return string, column + len(string)
    if string.strip(" ") == "":
        return "", None
    return " " * indent + string, indent + len(string)


def _line_end(column):
    """Return what is written to come to the begin of a line."""
    return "" if column is None else "\n"


def _on(column, left):
    """Return the step that writes nothing and leaves something."""
    return "", column, tuple(left), 0


def _of_text(column, indent, document, flat):
    written, behind = _written(column, indent, document[1])
    return [(written, behind, (), 0)]


def _of_line(column, indent, document, flat):
    return [(_line_end(column), None, (), 0)]


def _of_blank(column, indent, document, flat):
    return [(_line_end(column) + "\n", None, (), 0)]


def _of_nest(column, indent, document, flat):
    return [_on(column, [(indent + document[1], document[2])])]


def _of_align(column, indent, document, flat):
    return [_on(column, [(indent if column is None else column, document[1])])]


def _of_group(column, indent, document, flat):
    broken = ("", column, ((indent, document[1]),), 1)
    if flat is None:
        return [broken]
    return [_on(column, [(indent, ("text", flat))]), broken]


def _of_choice(column, indent, document, flat):
    return [_on(column, [(indent, part)]) for part in document[1:]]


def _of_gap(column, indent, document, flat):
    if column is None:
        return [_on(column, [])]
    return [(" ", column + 1, (), 0), ("\n", None, (), 0)]


def _of_fill(column, indent, document, flat):
    parts = document[1]
    left = [(indent, part) for part in parts[:1]]
    if len(parts) > 1:
        left.extend([(indent, ("gap",)), (indent, ("fill", parts[1:]))])
    return [_on(column, left)]


def _of_row(column, indent, document, flat):
    return [_on(column, [(indent, part) for part in document[1]])]


def _of_raw(column, indent, document, flat):
    first, *others = document[1]
    written = _written(column, indent, first)[0]
    return [("\n".join([written] + others), len(others[-1]), (), 0)]


STEPS = {
    "text": _of_text,
    "line": _of_line,
    "hard": _of_line,
    "blank": _of_blank,
    "nest": _of_nest,
    "align": _of_align,
    "group": _of_group,
    "choice": _of_choice,
    "gap": _of_gap,
    "fill": _of_fill,
    "row": _of_row,
    "raw": _of_raw,
}


def steps(column, indent, document, flat):
    """Return the list of the STEPS of a document at a column; flat is its FLAT text, asked of groups alone."""
    step = STEPS[document[0]]
    return step(column, indent, document, flat)


def size_by(document, sizes):
    """Return the size of a document by those of the documents directly in it: each step leaves less.

    A fill is greater than what stands in it by each gap, and by each fill that it leaves.
    """
    gaps = max(len(sizes) - 1, 0) if document[0] == "fill" else 0
    return 1 + 2 * gaps + sum(sizes)
