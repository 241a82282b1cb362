"""The errors that the package raises."""


class LaidError(ValueError):
    """What all errors of the package have in common; it is raised nowhere itself."""


class Wrong(LaidError):
    """An argument, counted from 0, is not as described."""

    def __init__(self, place):
        self.place = place


class Faulty(LaidError):
    """A text has faults."""

    def __init__(self, faults):
        self.faults = faults


class NoStyle(LaidError):
    """A line of a text shows no value of a style."""

    def __init__(self, line):
        self.line = line


class TooMany(LaidError):
    """There are more than the most that are gone through."""

    def __init__(self, most):
        self.most = most


class NoChange(LaidError):
    """A change can't be made in a text."""

    def __init__(self, change):
        self.change = change


class NoFile(LaidError):
    """There is no file at a path."""

    def __init__(self, path):
        self.path = path


class Nothing(LaidError):
    """There is nothing to go back to."""


class NoCommand(LaidError):
    """A line is no command."""
