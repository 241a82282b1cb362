"""Texts that show styles in part, and the styles of files in folders."""

from leastlaid.errors import NoStyle, Wrong
from leastlaid.styles import BOUNDS, NAMES, can_be, named, style_of


def is_layer(thing):
    """Tell whether any value is a LAYER."""
    if not isinstance(thing, dict):
        return False
    return all([isinstance(name, str) and name in NAMES and can_be(name, thing[name]) for name in thing])


def _ascending(layer):
    """Return a LAYER with ascending keys."""
    return {name: layer[name] for name in sorted(layer)}


def laid(style, layer):
    """Return a STYLE with the values of a LAYER in the place of its own."""
    return style_of(over(named(style), layer))


def over(below, above):
    """Return the LAYER of all values of one above, and of those below that it doesn't have."""
    return _ascending({**below, **above})


def layer_between(one, other):
    """Return the least LAYER that makes a STYLE of another one."""
    old, new = named(one), named(other)
    return {name: new[name] for name in new if new[name] != old[name]}


def show_layer(layer):
    """Return the text that shows a LAYER."""
    lines = []
    for name in NAMES:
        if name in layer:
            value = layer[name]
            lines.append(f"{name} = " + (" ".join(value) if name == "rank" else str(value)))
    return "\n".join(lines)


def _value_of(name, words):
    """Return the value that some words show at a name, None if they show none."""
    if name == "rank":
        return tuple(words) if can_be(name, tuple(words)) else None
    if len(words) != 1:
        return None
    if name not in BOUNDS:
        return words[0] if can_be(name, words[0]) else None
    low, high = BOUNDS[name]
    for number in range(low, high + 1):
        if str(number) == words[0]:
            return number
    return None


def _words_of(line):
    """Return the words of a line, what follows a # left out."""
    shown = line.partition("#")[0].replace("=", " = ")
    return [word for word in shown.split(" ") if word != ""]


def read_layer(text):
    """Return the LAYER that a text shows."""
    if not isinstance(text, str):
        raise Wrong(0)
    layer = {}
    for at, line in enumerate(text.split("\n")):
        words = _words_of(line)
        if not words:
            continue
        name = words[0]
        if name not in NAMES or name in layer or words[1:2] != ["="]:
            raise NoStyle(at)
        value = _value_of(name, words[2:])
        if value is None:
            raise NoStyle(at)
        layer[name] = value
    return _ascending(layer)


def layers_for(layers, path):
    """Return the list of the FOLDERS in which a file lies, with their LAYERS, from the outermost one on."""
    folders = sorted([folder for folder in layers if folder == "" or path.startswith(folder + "/")])
    # Of folders that begin one path the lesser string is the outer one.
    return [(folder, _ascending(layers[folder])) for folder in folders]


def style_for(style, layers, path):
    """Return the STYLE of a file: all LAYERS of its folders are laid over one."""
    found = style
    for _, layer in layers_for(layers, path):
        found = laid(found, layer)
    return found


def same_style_paths(style, layers, paths):
    """Return the ascending list of tuples of those paths that get the same STYLE."""
    found = {}
    # The paths ascend, so each tuple does, and so do the tuples by their first paths.
    for path in sorted(set(paths)):
        found.setdefault(style_for(style, layers, path), []).append(path)
    return [tuple(group) for group in found.values()]
