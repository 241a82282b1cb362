"""Printing: from a page to the document by which it is laid out."""

from leastlaid.docs import inner_documents
from leastlaid.owners import is_line_comment
from leastlaid.pages import BARE
from leastlaid.pieces import pieces_of
from leastlaid.styles import named

HARD = ("hard",)
LINE = ("line", " ")
BLANK = ("text", " ")
# It stands among documents for a BLANK until it is known what stands behind it.
PERHAPS = ("perhaps",)


def _begins_hard(document):
    """Tell whether a document begins with hard, also within others."""
    first = document
    while first[0] in ("row", "group", "nest", "choice") and inner_documents(first):
        first = inner_documents(first)[0]
    return first == HARD


def row_with(parts):
    """Return the row of some documents, without rows in it."""
    found = []
    for at, part in enumerate(parts):
        if part == PERHAPS:
            if not _begins_hard(parts[at + 1]):
                found.append(BLANK)
        elif part[0] == "row":
            found.extend(part[1])
        else:
            found.append(part)
    return found[0] if len(found) == 1 else ("row", tuple(found))


def _string(string):
    """Return the document of a word or a comment, perhaps over several lines."""
    lines = string.split("\n")
    return ("text", string) if len(lines) == 1 else ("raw", tuple(lines))


def _with_comments(word, ahead, behind):
    """Return the document of a word with its comments."""
    parts = []
    for comment in ahead:
        parts.extend([HARD, _string(comment), HARD])
    parts.append(_string(word))
    for comment in behind:
        parts.extend([BLANK, _string(comment)])
    if behind and is_line_comment(behind[-1]):
        parts.append(HARD)
    return row_with(parts)


class Printer:
    """The state of printing: the word that comes next, and what has been made of the words ahead of it."""

    def __init__(self, notes, blanks, layer):
        self.notes = notes
        self.blanks = blanks
        self.layer = layer
        self.at = 0
        # For all that is open, the outermost one first: the first word in it, and its documents.
        self.made = [(0, [])]

    def put(self, *documents):
        """Put some documents behind what has been made of what is open."""
        self.made[-1][1].extend(documents)

    def word(self, word):
        """Put a word of the ROW with its comments."""
        ahead, behind = self.notes.get(self.at, BARE)
        self.put(_with_comments(word, ahead, behind))
        self.at += 1

    def apart(self):
        """Put what parts the word that comes next from the statement ahead of it."""
        many = min(self.blanks.get(self.at, 0), self.layer["blanks"])
        if many == 0:
            self.put(HARD)
        for _ in range(many):
            self.put(("blank",))

    def beside(self, side):
        """Put what stands at a side of the operator of a CHAIN."""
        self.put(LINE if side == self.layer["operators"] else PERHAPS)

    def close(self, form):
        """Put the document of a form of all since it was opened."""
        begin, parts = self.made.pop()
        if form == "items":
            self.put(self.items_of(begin, parts))
        elif form == "value":
            self.put(("choice", row_with([PERHAPS] + parts), self.nested([HARD] + parts)))
        elif form == "nest":
            self.put(self.nested(parts))
        elif form == "group":
            self.put(("group", row_with(parts)))
        else:
            self.put(row_with(parts))

    def nested(self, parts):
        """Return the document of what stands further in by a step."""
        return "nest", self.layer["step"], row_with(parts)

    def items_of(self, begin, parts):
        """Return the document of what stands between two brackets, the first word of it being told."""
        has_notes = any([index in self.notes for index in range(begin, self.at)])
        if self.layer["lists"] == "fill" and not has_notes:
            listed = [("fill", tuple(parts))]
        else:
            listed = [document for part in parts for document in (LINE, part)][1:]
        return "group", row_with([self.nested([("line", "")] + listed), ("line", "")])

    def end(self):
        """Put the comments of the END, and the end of the last line."""
        comments = self.notes.get(self.at, BARE)[0]
        if comments and self.at > 0:
            self.apart()
        for at, comment in enumerate(comments):
            if at > 0:
                self.put(HARD)
            self.put(_string(comment))
        if comments or self.at > 0:
            self.put(HARD)


def _print_piece(printer, what, thing):
    """Print one of the pieces of a program."""
    if what == "word":
        printer.word(thing)
    elif what == "bracket":
        printer.put(("text", thing))
    elif what == "space":
        printer.put(PERHAPS)
    elif what == "beside":
        printer.beside(thing)
    elif what == "hard":
        printer.put(HARD)
    elif what == "apart":
        printer.apart()
    elif what == "open":
        printer.made.append((printer.at, []))
    elif what == "close":
        printer.close(thing)


def document_of(page, style):
    """Return the DOCUMENT of a PAGE by a STYLE."""
    program, notes, blanks = page
    printer = Printer(notes, blanks, named(style))
    for what, thing in pieces_of(program):
        _print_piece(printer, what, thing)
    printer.end()
    return row_with(printer.made[0][1])
