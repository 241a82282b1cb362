"""Routes: the FIRST of the BEST LAYOUTS of the document of a page, however many stands it has.

No align stands in such a document. So nothing hangs on a column that is the width or more but how many
signs go beyond it, and that is the same at all of them: they are told by the width.

A document is told by STOPS, each known by its number, from which a way leads to those with lesser
numbers only: ("leaf", indent, document, behind) for a text, line, hard, blank, gap or raw; and
("fork", first, second, broken) for two moves, broken being 1 if the second one is BROKEN, or, without
a first one, for that alone. Stop 0 is the end. A SPOT is a tuple (column, stop).
"""

from leastlaid.badness import PARTS
from leastlaid.docs import flat_by, folded
from leastlaid.stands import badness_at
from leastlaid.steps import steps

# More than any part of a badness comes to, so each badness is one number, and these are compared by a rank.
MANY = 2 ** 32
WEIGHTS = (2 ** 64, 2 ** 32, 1)


def _with_flat(document, inner):
    """Return a document with its FLAT text ahead of it, and with what is made of those directly in it behind it."""
    return flat_by(document, [flat for flat, _, _ in inner]), document, inner


def _is_blank(string):
    """Tell whether a string is not written at the begin of a line."""
    return string.strip(" ") == ""


class Course:
    """The stops of a document, found from its end on."""

    def __init__(self, document):
        self.stops = [("end",)]
        # The stop behind what is looked at next.
        self.now = 0
        self.todo = [("part", (0, folded(document, _with_flat)))]
        while self.todo:
            what, thing = self.todo.pop()
            step = GOALS[what]
            step(self, thing)

    def put(self, stop):
        """Put a stop ahead of all that has been found."""
        self.stops.append(stop)
        self.now = len(self.stops) - 1

    def put_text(self, indent, string):
        """Put a text ahead of all that has been found, as one with a text that stands there."""
        if string == "":
            return
        behind = self.now
        after = self.stops[behind]
        if not _is_blank(string) and after[0] == "leaf" and after[2][0] == "text":
            string, behind = string + after[2][1], after[3]
        self.put(("leaf", indent, ("text", string), behind))

    def look_at(self, indent, parts):
        """Look next at some parts that stand behind one another."""
        self.todo.extend([("part", (indent, part)) for part in parts])


def _find_part(course, thing):
    """Find the stops of a document that is laid out at an indent."""
    indent, (flat, document, inner) = thing
    sort = document[0]
    if sort == "text":
        course.put_text(indent, document[1])
    elif sort in ("row", "nest"):
        course.look_at(indent + (document[1] if sort == "nest" else 0), inner)
    elif sort == "fill":
        gap = (" ", ("gap",), [])
        course.look_at(indent, [part for other in inner for part in (gap, other)][1:])
    elif sort == "group":
        course.todo.append(("group", (indent, flat, course.now)))
        course.look_at(indent, inner)
    elif sort == "choice":
        course.todo.append(("first", (indent, inner[0], course.now)))
        course.look_at(indent, inner[1:])
    else:
        course.put(("leaf", indent, document, course.now))


def _find_group(course, thing):
    """Find the fork of a group; the stops of its inside have been found."""
    indent, flat, behind = thing
    inside = course.now
    first = None
    if flat is not None:
        course.now = behind
        course.put_text(indent, flat)
        first = course.now
    course.put(("fork", first, inside, 1))


def _find_first(course, thing):
    """Find the stops of the first document of a choice; those of the second one have been found."""
    indent, part, behind = thing
    course.todo.append(("choice", course.now))
    course.now = behind
    course.look_at(indent, [part])


def _find_choice(course, second):
    """Find the fork of a choice; the stops of both documents have been found."""
    course.put(("fork", course.now, second, 0))


GOALS = {
    "part": _find_part,
    "group": _find_group,
    "first": _find_first,
    "choice": _find_choice,
}


class Route:
    """The moves from all spots of a document that can be come to, and the least badness from each to the end."""

    def __init__(self, width, rank, document):
        course = Course(document)
        self.width = width
        self.weights = [WEIGHTS[rank.index(part)] for part in PARTS]
        self.stops = course.stops
        self.first = course.now
        # Of each stop, by columns: the lists of moves, and the least badnesses as numbers.
        self.found = self.all_moves()
        self.least = self.all_least()

    def moves(self, column, at):
        """Return the list of the moves from a spot: what is written, the badness as a number, and the spot behind."""
        stop = self.stops[at]
        if stop[0] == "fork":
            _, first, second, broken = stop
            found = [] if first is None else [("", 0, column, first)]
            return found + [("", broken * self.weights[2], column, second)]
        _, indent, leaf, behind = stop
        found = []
        for written, after, _, _ in steps(column, indent, leaf, None):
            over, lines, _ = badness_at(self.width, column, written, 0)
            bad = over * self.weights[0] + lines * self.weights[1]
            found.append((written, bad, after if after is None else min(after, self.width), behind))
        return found

    def all_moves(self):
        """Return, for each stop, the dict from the columns that can be come to there to the moves."""
        found = [{} for _ in self.stops]
        found[self.first][None] = []
        for at in range(len(self.stops) - 1, 0, -1):
            for column in list(found[at]):
                moves = self.moves(column, at)
                found[at][column] = moves
                for _, _, after, behind in moves:
                    found[behind][after] = []
        return found

    def all_least(self):
        """Return, for each stop, the dict from the columns to the least badness."""
        least = [{column: 0 for column in self.found[0]}]
        for at in range(1, len(self.stops)):
            least.append({
                column: min([bad + least[behind][after] for _, bad, after, behind in moves])
                for column, moves in self.found[at].items()
            })
        return least

    def text(self):
        """Return the TEXT of the FIRST of the BEST LAYOUTS."""
        written = []
        column, at = None, self.first
        while at > 0:
            best = self.least[at][column]
            for string, bad, after, behind in self.found[at][column]:
                if bad + self.least[behind][after] == best:
                    written.append(string)
                    column, at = after, behind
                    break
        return "".join(written)

    def badness(self):
        """Return the BADNESS of the BEST LAYOUTS."""
        bad = self.least[self.first][None]
        return tuple([bad // weight % MANY for weight in self.weights])
