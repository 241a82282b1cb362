"""Owners: which word each comment of a text belongs to, and where empty lines stand."""

from leastlaid.cutting import cut, place_of
from leastlaid.errors import Faulty
from leastlaid.reading import is_comment_token, read_text
from leastlaid.rows import row_of, statement_spans


def is_line_comment(comment):
    """Tell whether a comment is a LINE COMMENT."""
    return comment.startswith("#")


def spans_lines(comment):
    """Tell whether a line feed stands in a comment."""
    return "\n" in comment


def written(comment):
    """Return a comment of a text as it is written."""
    return comment.rstrip(" ") if is_line_comment(comment) else comment


def can_be_behind(comments):
    """Tell whether some comments can be all that are BEHIND one word."""
    return not any([is_line_comment(comment) or spans_lines(comment) for comment in comments[:-1]])


def marked(text):
    """Return the program of a text, and the list of tuples (mark, word, begin, index) for all its words.

    The mark is "group" of a grouping bracket, "ahead" or "behind" of a comment, else "word". The
    index is that in the ROW, of a comment that of its OWNER, of a bracket that of the next word.
    """
    faults, program, groups = read_text(text)
    if faults:
        raise Faulty(faults)
    grouping = set(groups)
    found = []
    index = 0
    line = None
    for token in cut(text)[0]:
        word, begin = token[1], token[2]
        if begin in grouping:
            found.append(("group", word, begin, index))
        elif not is_comment_token(token):
            found.append(("word", word, begin, index))
            line = place_of(text, begin + len(word) - 1)[0]
            index += 1
        elif place_of(text, begin)[0] == line:
            found.append(("behind", word, begin, index - 1))
        else:
            found.append(("ahead", word, begin, index))
    return program, found


def owned_among(text, marks):
    """Return what owned tells of a text by what is marked in it."""
    return [
        (written(word), place_of(text, begin), index, mark)
        for mark, word, begin, index in marks
        if mark in ("ahead", "behind")
    ]


def owned(text):
    """Return the list of all comments of a text, each with its place, its OWNER and its side."""
    return owned_among(text, marked(text)[1])


def _empty_lines(text, begin):
    """Return how many empty lines stand directly ahead of an index."""
    bare = text[:begin].rstrip(" \n")
    return max(text.count("\n", len(bare), begin) - 1, 0)


def _first_begins(marks):
    """Return the dict from indexes of words to the indexes of the signs where they, or what is ahead, begin.

    The END is in it if it has comments. It means something of first words of statements and of the END
    alone: ahead of others a grouping bracket may be closed.
    """
    found = {}
    for mark, _, begin, index in marks:
        if mark != "behind" and index not in found:
            found[index] = begin
    return found


def blank_lines_among(text, program, marks):
    """Return what blank_lines tells of a text by its program and what is marked in it."""
    row = row_of(program)
    begins = _first_begins(marks)
    counted = [
        begin for begin, _, _, is_first in statement_spans(program)
        if not is_first and row[begin - 1] != "else"
    ]
    if program and len(row) in begins:
        counted.append(len(row))
    return {index: _empty_lines(text, begins[index]) for index in counted}


def blank_lines(text):
    """Return the dict from the words ahead of which empty lines are counted to how many there are."""
    program, marks = marked(text)
    return blank_lines_among(text, program, marks)
