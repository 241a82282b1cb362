"""Texts that are written word by word, keeping account of what is told of them."""

import random

from leastlaid.rows import row_of, statement_spans, words_of
from tests import plain, samples

LINES = ("#", "# a", "#a", "## <* *>", "# '''")
BLOCKS = ("<**>", "<* a *>", "<* # *>")
TALL = ("<*\n*>", "<* a\n\nb *>", "<*#\n*>")


def write(program, source):
    """A text of a program, the list of its comments with their owners, and its empty lines."""
    text, comments, empty = "", [], {}
    row = row_of(program)
    counted = {span[0] for span in statement_spans(program) if not span[3] and row[span[0] - 1] != "else"}
    index, line = 0, None
    first = None

    def space(feeds):
        pieces = [" " * source.randrange(3) for _ in range(feeds + 1)]
        return "\n".join(pieces) or " "

    for word, place in tuple(words_of(program)) + (("", len(row)),):
        feeds = source.choice((0, 0, 0, 1, 1, 2, 3))
        text += space(feeds)
        for _ in range(source.choice((0, 0, 0, 1, 2))):
            comment = source.choice(LINES + BLOCKS + TALL)
            is_behind = text.count("\n") == line
            comments.append((comment, plain.place(text, len(text)), index - is_behind, "behind" if is_behind else "ahead"))
            if not is_behind and first is None:
                first = max(feeds - 1, 0)
            text += comment + " " * source.randrange(3)
            if comment in LINES:
                # The line has to end; it is a line feed that counts for what comes next.
                feeds = source.choice((1, 2, 3))
                text += "\n" * feeds
            else:
                feeds = source.choice((0, 1, 2, 3))
                text += space(feeds)
        is_word = place is not None
        if first is None and (word == "(" or is_word and word):
            first = max(feeds - 1, 0)
        text += word
        if is_word:
            if place in counted or not word and program and first is not None:
                empty[place] = first
            line = text.count("\n")
            index += 1
            first = None
        elif word == ")":
            first = None
    return text, comments, empty


def page_told(program, comments, empty):
    """The page that a written text has."""
    notes = {}
    for comment, _, index, side in comments:
        notes.setdefault(index, ([], []))[side == "behind"].append(comment)
    return (
        program,
        {index: tuple(tuple(part) for part in notes[index]) for index in sorted(notes)},
        {index: empty[index] for index in sorted(empty) if empty[index]})


def bracketed(program, source):
    """The words of a program with needless grouping brackets here and there, as one text."""
    told = plain.PlainRow(program)
    pieces = [["", word, ""] for word in told.row]
    for begin, end in told.ranges:
        many = source.choice((0, 0, 0, 1, 2))
        pieces[begin][0] += "(" * many
        pieces[end - 1][2] += ")" * many
    index = 0
    ahead = ""
    for word, place in words_of(program):
        if place is not None:
            pieces[place][0] += ahead
            index, ahead = place, ""
        elif word == "(":
            ahead += word
        else:
            pieces[index][2] += word
    return source.choice((" ", "\n", "  ")).join(" ".join(piece) for piece in pieces)


def any_style(source):
    """A style, by a source of random numbers."""
    rank = ["over", "lines", "broken"]
    source.shuffle(rank)
    return (source.choice((8, 9, 11, 14, 20, 30, 40, 60, 80, 100, 120)), source.randrange(9), source.randrange(4),
            tuple(rank), source.choice(("ahead", "behind")), source.choice(("fill", "rows")))


def any_text(seed, deep=2, blocks=1):
    """A text with comments and empty lines here and there, and its page; more blocks make more statements."""
    source = random.Random(seed)
    program = sum((samples.any_block(source, deep) for _ in range(blocks)), ())
    text, comments, empty = write(program, source)
    return text, page_told(program, comments, empty)
