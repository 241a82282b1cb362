"""Desks: a Project that is led by lines."""

from leastlaid.changes import changed
from leastlaid.checker import report
from leastlaid.cutting import lines_of
from leastlaid.errors import NoCommand, NoFile, Wrong
from leastlaid.formatting import formatted, least_of
from leastlaid.owners import owned
from leastlaid.pages import page_of
from leastlaid.project import Project, is_path, style_at, words_for
from leastlaid.ranges import format_lines
from leastlaid.styles import named
from leastlaid.styletexts import show_layer
from leastlaid.words import DIGITS, is_text

# What has to stand behind the first word of each line.
FORMS = {
    "put": ("path", "string"),
    "drop": ("path",),
    "edit": ("path", "number", "number", "string"),
    "range": ("path", "number", "number"),
    "words": (),
    "run": ("number",),
    "left": (),
    "show": ("path",),
    "want": ("path",),
    "worse": ("path",),
    "check": ("path",),
    "style": ("path",),
    "notes": ("path",),
}
MOST_DIGITS = 9
# What is told by two signs in a STRING.
ESCAPES = {"\\n": "\n", "\\\\": "\\"}


def _cut_word(line):
    """Return the first word of a line, and what stands behind it and one blank."""
    word, _, rest = line.lstrip(" ").partition(" ")
    return word, rest


def _number_of(word):
    """Return the integer that a word shows as Python does, None if it shows none."""
    if not 1 <= len(word) <= MOST_DIGITS or not all([sign in DIGITS for sign in word]):
        return None
    return int(word) if str(int(word)) == word else None


def _string_of(told):
    """Return the string that a STRING tells, None if it is none."""
    found = []
    at = 0
    while at < len(told):
        sign = told[at]
        if sign == "\\":
            sign = ESCAPES.get(told[at:at + 2])
            if sign is None:
                return None
            at += 1
        found.append(sign)
        at += 1
    string = "".join(found)
    return string if is_text(string) else None


def _told(line):
    """Return the name of a command and the list of what stands behind it, None if a line is none."""
    if "\n" in line:
        return None
    name, rest = _cut_word(line)
    if name not in FORMS:
        return None
    values = []
    for kind in FORMS[name]:
        if kind == "string":
            value, rest = _string_of(rest), ""
        else:
            word, rest = _cut_word(rest)
            value = _number_of(word) if kind == "number" else word
        if value is None or kind == "path" and not is_path(value):
            return None
        values.append(value)
    if rest.strip(" ") != "" or name == "edit" and values[1] > values[2]:
        return None
    return name, values


def _shown(text):
    """Return the list of the lines by which a text is shown."""
    return [] if text == "" else lines_of(text)


def _put(project, style, path, text):
    project.put(path, text)
    return ["done"]


def _drop(project, style, path):
    project.drop(path)
    return ["done"]


def _edit(project, style, path, begin, end, string):
    project.put(path, changed(project.files()[path], (begin, end, string)))
    return ["done"]


def _range(project, style, path, first, last):
    files = project.files()
    project.put(path, format_lines(files[path], style_at(files, style, path), first, last))
    return ["done"]


def _words(project, style):
    words = words_for(project.files(), style)
    return [f"{path} {words[path]}" for path in words]


def _run(project, style, many):
    return project.run(many)


def _left(project, style):
    return [str(project.left())]


def _show(project, style, path):
    return _shown(project.files()[path])


def _want(project, style, path):
    files = project.files()
    return _shown(formatted(files[path], style_at(files, style, path)))


def _worse(project, style, path):
    files = project.files()
    page = page_of(files[path])
    numbers = least_of(page, style_at(files, style, path)) + (len(page[0]),)
    return [" ".join([str(number) for number in numbers])]


def _check(project, style, path):
    files = project.files()
    return report(files[path], style_at(files, style, path))


def _style(project, style, path):
    return lines_of(show_layer(named(style_at(project.files(), style, path))))


def _notes(project, style, path):
    return [
        f"{line} {column} {side} {index}"
        for _, (line, column), index, side in owned(project.files()[path])
    ]


ACTIONS = {
    "put": _put,
    "drop": _drop,
    "edit": _edit,
    "range": _range,
    "words": _words,
    "run": _run,
    "left": _left,
    "show": _show,
    "want": _want,
    "worse": _worse,
    "check": _check,
    "style": _style,
    "notes": _notes,
}


class Desk:
    """A Project, and the STYLE of files without a style of their own."""

    def __init__(self, files, style):
        self._project = Project(files, style)
        self._style = style

    def execute(self, line):
        """Do what a line tells, and return the list of the strings that answer it."""
        if not isinstance(line, str):
            raise Wrong(0)
        told = _told(line)
        if told is None:
            raise NoCommand()
        name, values = told
        if FORMS[name][:1] == ("path",) and name != "put" and values[0] not in self._project.files():
            raise NoFile(values[0])
        action = ACTIONS[name]
        return action(self._project, self._style, *values)

    def project(self):
        """Return an independent Project in the state of the one that is led."""
        return self._project.twin()

    def twin(self):
        """Return an independent Desk in the same state."""
        return Desk(self._project.files(), self._style)

    def __eq__(self, other):
        return isinstance(other, Desk) and self._project == other._project
