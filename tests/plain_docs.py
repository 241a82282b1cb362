"""A plain way to lay documents out, for tests to hold the program against.

It goes through documents by calls of calls, each one telling all that it can write, and knows no stands.
"""


def flat(document):
    """The FLAT text, or None."""
    sort = document[0]
    if sort in ("text", "line"):
        return document[1]
    if sort in ("hard", "blank", "raw"):
        return None
    if sort == "gap":
        return " "
    if sort == "choice":
        first = flat(document[1])
        return flat(document[2]) if first is None else first
    if sort in ("row", "fill"):
        texts = [flat(part) for part in document[1]]
        return None if None in texts else {"row": "", "fill": " "}[sort].join(texts)
    return flat(document[-1])


def inside(document):
    """The documents directly in one."""
    if document[0] in ("row", "fill"):
        return list(document[1])
    return {"nest": list(document[2:]), "align": list(document[1:]), "group": list(document[1:]),
            "choice": list(document[1:])}.get(document[0], [])


def parts(document):
    return 1 + sum(parts(part) for part in inside(document))


def depth(document):
    return 1 + max([depth(part) for part in inside(document)] + [0])


def choices(document):
    own = {"group": 1, "choice": 1, "gap": 1, "fill": max(len(inside(document)) - 1, 0)}.get(document[0], 0)
    return own + sum(choices(part) for part in inside(document))


def string_at(column, indent, string):
    """What is written of a string, and the column behind it."""
    if not string or column is None and set(string) == {" "}:
        return "", column
    if column is None:
        string, column = " " * indent + string, 0
    return string, column + len(string)


def in_turn(documents, indent, column):
    """All outcomes of documents behind one another."""
    found = [((), "", column, 0)]
    for document in documents:
        found = [
            (ways + more, text + string, behind, broken + other)
            for ways, text, at, broken in found
            for more, string, behind, other in outcomes(document, indent, at)]
    return found


def chosen(lists):
    """All outcomes of several ones to choose from."""
    return [((place,) + one[0],) + one[1:] for place, found in enumerate(lists) for one in found]


def outcomes(document, indent=0, column=None):
    """The list of tuples (ways, text, column, broken) of all that a document can write, by ascending ways."""
    sort = document[0]
    end = "" if column is None else "\n"
    if sort == "text":
        return [((),) + string_at(column, indent, document[1]) + (0,)]
    if sort in ("line", "hard"):
        return [((), end, None, 0)]
    if sort == "blank":
        return [((), end + "\n", None, 0)]
    if sort == "nest":
        return outcomes(document[2], indent + document[1], column)
    if sort == "align":
        return outcomes(document[1], indent if column is None else column, column)
    if sort == "group":
        broken = [(ways, text, behind, many + 1) for ways, text, behind, many in outcomes(document[1], indent, column)]
        string = flat(document)
        if string is None:
            return broken
        return chosen([outcomes(("text", string), indent, column), broken])
    if sort == "choice":
        return chosen([outcomes(part, indent, column) for part in document[1:]])
    if sort == "gap":
        return [((), "", None, 0)] if column is None else [((0,), " ", column + 1, 0), ((1,), "\n", None, 0)]
    if sort == "row":
        return in_turn(document[1], indent, column)
    if sort == "fill":
        between = [part for item in document[1] for part in (("gap",), item)]
        return in_turn(between[1:], indent, column)
    first = string_at(column, indent, document[1][0])[0]
    return [((), "\n".join((first,) + document[1][1:]), len(document[1][-1]), 0)]


def layouts(document):
    """All (ways, text, broken)."""
    return [(ways, text, broken) for ways, text, _, broken in outcomes(document)]


def badness(width, text, broken):
    """The BADNESS, sign by sign."""
    over = lines = column = 0
    for sign in text:
        if sign == "\n":
            lines, column = lines + 1, 0
        else:
            column += 1
            over += column > width
    return over, lines, broken


def key(rank, bad):
    """What badnesses are compared by."""
    return [bad[("over", "lines", "broken").index(word)] for word in rank]


def best(width, rank, document):
    """The first of the best layouts: (badness, ways, text)."""
    found = [(badness(width, text, broken), ways, text) for ways, text, broken in layouts(document)]
    least = min(key(rank, bad) for bad, _, _ in found)
    return [one for one in found if key(rank, one[0]) == least][0]


def from_stand(width, stand):
    """The badnesses of all ways to lay out what is left at a stand."""
    column, rest = stand
    found = [("", column, 0)]
    for indent, document in rest:
        found = [
            (text + string, behind, broken + other)
            for text, at, broken in found
            for _, string, behind, other in outcomes(document, indent, at)]
    # What stands ahead of the column was there before.
    begin = " " * (column or 0)
    before = badness(width, begin, 0)[0]
    told = [badness(width, begin + text, broken) for text, _, broken in found]
    return [(over - before, lines, broken) for over, lines, broken in told]
