"""Projects: many files, each formatted by the styles of the folders in which it lies."""

from leastlaid.errors import NoFile, NoStyle, Wrong
from leastlaid.formatting import formatted
from leastlaid.reading import faults_of
from leastlaid.styles import is_style
from leastlaid.styletexts import read_layer, style_for
from leastlaid.words import is_integer, is_name, is_text

STYLE_NAME = "style"


def is_path(thing):
    """Tell whether any value is a PATH."""
    return isinstance(thing, str) and all([is_name(part) for part in thing.split("/")])


def is_files(thing):
    """Tell whether any value is a dict from PATHS to TEXTS."""
    return isinstance(thing, dict) and all([is_path(path) and is_text(thing[path]) for path in thing])


def _in_order(files):
    """Return FILES with ascending paths."""
    return {path: files[path] for path in sorted(files)}


def _is_style_file(path):
    """Tell whether a PATH is that of a STYLE FILE."""
    return path.split("/")[-1] == STYLE_NAME


def _layer_of(text):
    """Return the LAYER that the text of a STYLE FILE shows, None if it is BAD."""
    try:
        return read_layer(text)
    except NoStyle:
        return None


def layers_in(files):
    """Return the dict, ascending, from the FOLDERS of the STYLE FILES that are not BAD to their LAYERS."""
    layers = {}
    for path in files:
        layer = _layer_of(files[path]) if _is_style_file(path) else None
        if layer is not None:
            layers[path.rpartition("/")[0]] = layer
    return _in_order(layers)


def style_at(files, style, path):
    """Return the STYLE of a path: all LAYERS of its folders are laid over one."""
    return style_for(style, layers_in(files), path)


def bad_styles(files):
    """Return the ascending list of the paths of the BAD STYLE FILES, with the line that is none of a LAYER."""
    found = []
    for path in sorted(files):
        if _is_style_file(path):
            try:
                read_layer(files[path])
            except NoStyle as error:
                found.append((path, error.line))
    return found


def _wanted_text(layers, style, path, text):
    """Return the text that a file has if it is formatted by some LAYERS, its own one if it is not to be."""
    if _is_style_file(path) or faults_of(text):
        return text
    return formatted(text, style_for(style, layers, path))


def wanted_files(files, style):
    """Return the FILES in which all CODE without faults is formatted."""
    layers = layers_in(files)
    return {path: _wanted_text(layers, style, path, files[path]) for path in sorted(files)}


def writes_for(files, style):
    """Return the ascending list of the paths of the files that are to be written, with their texts."""
    wanted = wanted_files(files, style)
    return [(path, wanted[path]) for path in wanted if wanted[path] != files[path]]


def after_writes(files, writes, many):
    """Return the FILES behind the first many of some writes."""
    found = {path: files[path] for path in files}
    for path, text in writes[:many]:
        found[path] = text
    return _in_order(found)


def _word_for(layers, style, path, text):
    """Return the word that tells how it is with a file."""
    if _is_style_file(path):
        return "bad" if _layer_of(text) is None else "style"
    if faults_of(text):
        return "faulty"
    return "same" if _wanted_text(layers, style, path, text) == text else "changed"


def words_for(files, style):
    """Return the dict, ascending, from all paths to the words that tell how it is with the files."""
    layers = layers_in(files)
    return {path: _word_for(layers, style, path, files[path]) for path in sorted(files)}


class Project:
    """FILES and a style."""

    def __init__(self, files, style):
        if not is_files(files):
            raise Wrong(0)
        if not is_style(style):
            raise Wrong(1)
        self._files = _in_order(files)
        self._style = style

    def _hold(self, path):
        """Raise NoFile if there is no file at a PATH."""
        if path not in self._files:
            raise NoFile(path)

    def put(self, path, text):
        """Put a file at a PATH, in the place of one that is there."""
        if not is_path(path):
            raise Wrong(0)
        if not is_text(text):
            raise Wrong(1)
        self._files[path] = text

    def drop(self, path):
        """Take the file at a PATH away."""
        if not is_path(path):
            raise Wrong(0)
        self._hold(path)
        del self._files[path]

    def files(self):
        """Return the FILES."""
        return _in_order(self._files)

    def word(self, path):
        """Return the word that tells how it is with the file at a PATH."""
        self._hold(path)
        return _word_for(layers_in(self._files), self._style, path, self._files[path])

    def run(self, many):
        """Write the first many of the files that are to be written, and return the list of their paths."""
        if not is_integer(many) or many < 0:
            raise Wrong(0)
        writes = writes_for(self._files, self._style)[:many]
        self._files = after_writes(self._files, writes, len(writes))
        return [path for path, _ in writes]

    def left(self):
        """Return how many files are still to be written."""
        return len(writes_for(self._files, self._style))

    def twin(self):
        """Return an independent Project in the same state."""
        return Project(self._files, self._style)

    def __eq__(self, other):
        return isinstance(other, Project) and self._files == other._files and self._style == other._style
