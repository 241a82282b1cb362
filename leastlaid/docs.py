"""Documents: what they are, their FLAT texts, and how many stand in them."""

from leastlaid.words import is_integer

# What has to stand behind the word that each sort of document begins with.
PARTS = {
    "text": ("string",),
    "line": ("space",),
    "hard": (),
    "blank": (),
    "nest": ("many", "document"),
    "align": ("document",),
    "group": ("document",),
    "choice": ("document", "document"),
    "gap": (),
    "fill": ("documents",),
    "row": ("documents",),
    "raw": ("strings",),
}


def _is_string(thing):
    """Tell whether any value is a string without line feeds."""
    return isinstance(thing, str) and "\n" not in thing


def _is_part(sort, thing):
    """Tell whether a part without documents in it is what it has to be."""
    if sort == "string":
        return _is_string(thing)
    if sort == "space":
        return _is_string(thing) and thing in ("", " ")
    if sort == "many":
        return is_integer(thing) and thing >= 0
    if sort == "strings":
        return isinstance(thing, tuple) and len(thing) >= 2 and all([_is_string(part) for part in thing])
    return False


def _parts_of(thing):
    """Return the list of what has to be documents for any value to be one, None if it is none."""
    if not isinstance(thing, tuple) or len(thing) == 0 or not isinstance(thing[0], str):
        return None
    sorts = PARTS.get(thing[0])
    if sorts is None or len(sorts) != len(thing) - 1:
        return None
    found = []
    for sort, part in zip(sorts, thing[1:]):
        if sort == "document":
            found.append(part)
        elif sort == "documents" and isinstance(part, tuple):
            found.extend(part)
        elif not _is_part(sort, part):
            return None
    return found


def is_document(thing):
    """Tell whether any value is a DOCUMENT.

    It keeps what is still to be looked at in a list, as values may be deeper than calls may be.
    """
    todo = [thing]
    while todo:
        parts = _parts_of(todo.pop())
        if parts is None:
            return False
        todo.extend(parts)
    return True


def inner_documents(document):
    """Return the tuple of the documents that stand directly in a document."""
    if document[0] in ("fill", "row"):
        return document[1]
    if document[0] == "nest":
        return document[2:]
    if document[0] in ("align", "group", "choice"):
        return document[1:]
    return ()


def with_inner(document, inner):
    """Return a document with other things in the place of those that stand directly in it."""
    if document[0] in ("fill", "row"):
        return document[0], tuple(inner)
    # What isn't a document stands ahead of what is.
    many = len(document) - len(inner)
    return document[:many] + tuple(inner)


def folded(document, make):
    """Return what a function makes of a document and of the list of what it has made of those directly in it."""
    todo = [(document, False)]
    made = []
    while todo:
        now, is_inside_made = todo.pop()
        inner = inner_documents(now)
        if is_inside_made:
            begin = len(made) - len(inner)
            things = made[begin:]
            del made[begin:]
            made.append(make(now, things))
        else:
            todo.append((now, True))
            todo.extend([(part, False) for part in inner[::-1]])
    return made[0]


def flat_by(document, flats):
    """Return the FLAT text of a document by those of the documents directly in it."""
    sort = document[0]
    if sort in ("text", "line"):
        return document[1]
    if sort == "gap":
        return " "
    if sort == "choice":
        return flats[1] if flats[0] is None else flats[0]
    if sort in ("hard", "blank", "raw") or any([flat is None for flat in flats]):
        return None
    return (" " if sort == "fill" else "").join(flats)


def flat_text(document):
    """Return the FLAT text of a document, None if there is none."""
    return folded(document, flat_by)


def _parts_by(_, inner):
    return 1 + sum(inner)


def _depth_by(_, inner):
    return 1 + max(inner, default=0)


def _choices_by(document, inner):
    own = 0
    if document[0] in ("group", "choice", "gap"):
        own = 1
    elif document[0] == "fill" and inner:
        own = len(inner) - 1
    return own + sum(inner)


def parts_in(document):
    """Return how many documents stand in a document, itself counted."""
    return folded(document, _parts_by)


def depth_of(document):
    """Return how many documents at most stand in one another."""
    return folded(document, _depth_by)


def choices_in(document):
    """Return how many groups, choices and gaps stand in a document, those of fills among them."""
    return folded(document, _choices_by)
