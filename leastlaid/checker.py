"""The checker: where a text is not formatted, and what is amiss there."""

from leastlaid.cutting import lines_of, place_of
from leastlaid.edits import edits_of
from leastlaid.formatting import formatted
from leastlaid.reading import faults_of


def _brackets_in(gap):
    """Return the grouping brackets of a gap."""
    return gap.replace(" ", "").replace("\n", "")


def _amiss(old, new):
    """Return the word for what is amiss with a gap that is another one in the formatted text."""
    if _brackets_in(old) != _brackets_in(new):
        return "brackets"
    return "lines" if old.count("\n") != new.count("\n") else "blanks"


def _wide_lines(text, style):
    """Return the list of the lines of a formatted text that go beyond the width, with how many signs do."""
    width = style[0]
    lines = lines_of(formatted(text, style))
    return [(at, len(line) - width) for at, line in enumerate(lines) if len(line) > width]


def check(text, style):
    """Return the list of the FINDINGS in a text, ascending."""
    faults = faults_of(text)
    if faults:
        return sorted([(place, "fault", reason) for place, reason in faults])
    found = [
        (place_of(text, begin), _amiss(text[begin:end], string), string)
        for begin, end, string in edits_of(text, style)
    ]
    found.extend([((line, style[0]), "wide", over) for line, over in _wide_lines(text, style)])
    return sorted(found)


def is_formatted(text, style):
    """Tell whether a text is just what formatting makes of it."""
    return not faults_of(text) and formatted(text, style) == text


def _reported(finding):
    """Return the string that tells a FINDING."""
    (line, column), word, more = finding
    told = f"{line + 1}:{column + 1}: {word}"
    return f"{told} {more}" if word in ("fault", "wide") else told


def report(text, style):
    """Return the list of strings that tell the FINDINGS in a text, counted from 1."""
    return [_reported(finding) for finding in check(text, style)]


def touched_lines(text, style):
    """Return the LOT of the lines that the CHANGES touch by which a text is formatted."""
    touched = set()
    for begin, end, _ in edits_of(text, style):
        for line in range(place_of(text, begin)[0], place_of(text, end)[0] + 1):
            touched.add(line)
    return tuple(sorted(touched))


def with_most_over(text, style):
    """Return how many signs of a line of the formatted text go beyond the width at most."""
    return max([over for _, over in _wide_lines(text, style)], default=0)
