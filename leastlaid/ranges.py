"""Ranges: bundles of statements that share no line with others, formatted by themselves."""

from leastlaid.cutting import lines_of, place_of
from leastlaid.formatting import formatted
from leastlaid.owners import marked
from leastlaid.rows import row_of, statement_spans


def _statement_places(program):
    """Return the list that has for each word of the ROW, and for the END, the index of its outermost statement."""
    row = row_of(program)
    # An if statement behind else stands within the outermost one.
    begins = {
        begin: True for begin, _, depth, is_first in statement_spans(program)
        if depth == 0 and (is_first or row[begin - 1] != "else")
    }
    found = []
    place = -1
    for index in range(len(row)):
        if index in begins:
            place += 1
        found.append(place)
    return found + [place + 1]


def bundles(text):
    """Return the list of the BUNDLES of a text: their first and last lines, and the LOTS of their statements."""
    program, marks = marked(text)
    places = _statement_places(program)
    found = []
    for _, word, begin, index in marks:
        first = place_of(text, begin)[0]
        last = place_of(text, begin + len(word) - 1)[0]
        place = places[index]
        # A comment behind a statement may stand behind a bracket of the next one: they share a line then.
        if found and (first <= found[-1][1] or place in found[-1][2]):
            begun, ended, lot = found[-1]
            found[-1] = (begun, max(ended, last), lot if place in lot else lot + (place,))
        else:
            found.append((first, last, (place,)))
    return found


def met(text, first, last):
    """Return the LOT of the indexes of the BUNDLES of which a line is from one line to another one."""
    return tuple([
        at for at, (begin, end, _) in enumerate(bundles(text))
        if max(begin, first) <= min(end, last)
    ])


def _formatted_lines(lines, style):
    """Return the lines to which some lines of a text are formatted."""
    return lines_of(formatted("\n".join(lines), style))[:-1]


def format_bundles(text, style, lot):
    """Return a text in which just the BUNDLES with some indexes are formatted."""
    found = bundles(text)
    if not found:
        return formatted(text, style)
    lines = lines_of(text)
    written = []
    behind = 0
    for at, (first, last, _) in enumerate(found):
        if at in lot:
            empty = min(first - behind, style[2]) if at > 0 else 0
            written.extend([""] * empty + _formatted_lines(lines[first:last + 1], style))
        else:
            written.extend(lines[behind:last + 1])
        behind = last + 1
    # One line feed stands behind the last line if that is formatted.
    rest = [""] if len(found) - 1 in lot else lines[behind:]
    return "\n".join(written + rest)


def format_lines(text, style, first, last):
    """Return a text in which just the BUNDLES are formatted that have a line from one line to another one."""
    return format_bundles(text, style, met(text, first, last))
