"""Words: which strings are words of the language, and of which KIND they are."""

LETTERS = "ABCDEFGHIJKLMNOPQRSTUVWXYZ_abcdefghijklmnopqrstuvwxyz"
DIGITS = "0123456789"
KEYWORDS = (
    "let", "set", "give", "if", "else", "while", "for", "in",
    "def", "fn", "and", "or", "not", "true", "false", "none",
)
ESCAPES = ("\\\"", "\\\\", "\\n", "\\t")
# Those of two signs stand first: the longest one that begins at an index is the word.
SIGNS = (
    "==", "!=", "<=", ">=", "->",
    "(", ")", "[", "]", "{", "}", ",", ";", ":", ".", "=", "<", ">", "+", "-", "*", "/", "^",
)


def is_integer(thing):
    """Tell whether any value is an integer; truths are none."""
    return isinstance(thing, int) and not isinstance(thing, bool)


def is_text(thing):
    """Tell whether any value is a TEXT."""
    return isinstance(thing, str) and all([" " <= sign <= "~" or sign == "\n" for sign in thing])


def line_end(text, begin):
    """Return the index at which the line ends in which an index stands."""
    end = text.find("\n", begin)
    return len(text) if end < 0 else end


def _run_end(text, begin, signs):
    """Return the index behind all the signs of some sort that stand from an index on."""
    end = begin
    while end < len(text) and text[end] in signs:
        end += 1
    return end


def _number_end(text, begin):
    """Return the index behind a NUMBER; a point without digits behind it is no part of it."""
    end = _run_end(text, begin, DIGITS)
    if not text.startswith(".", end):
        return end
    far = _run_end(text, end + 1, DIGITS)
    return far if far > end + 1 else end


def _quote_end(text, begin):
    """Return the index behind the QUOTE that begins at an index, None if none does."""
    at = begin + 1
    while at < len(text) and text[at] != "\n":
        if text[at] == "\"":
            return at + 1
        if text[at] == "\\":
            if text[at:at + 2] not in ESCAPES:
                return None
            at += 1
        at += 1
    return None


def _closed_end(text, begin, opening, closing):
    """Return the index behind what is closed by a string, None if it isn't."""
    end = text.find(closing, begin + len(opening))
    return None if end < 0 else end + len(closing)


def _sign_end(text, begin):
    """Return the index behind the longest of the SIGNS that begins at an index, None if none does."""
    for sign in SIGNS:
        if text.startswith(sign, begin):
            return begin + len(sign)
    return None


def word_at(text, begin):
    """Return the KIND of what begins at an index, neither a blank nor a line feed, and its end.

    The end is None if no word begins there: the kind is the reason of the FAULT then.
    """
    if text.startswith("<*", begin):
        return "block", _closed_end(text, begin, "<*", "*>")
    if text.startswith("'''", begin):
        return "raw", _closed_end(text, begin, "'''", "'''")
    if text[begin] == "\"":
        return "quote", _quote_end(text, begin)
    if text[begin] == "#":
        return "line", line_end(text, begin)
    if text[begin] in DIGITS:
        return "number", _number_end(text, begin)
    if text[begin] in LETTERS:
        end = _run_end(text, begin, LETTERS + DIGITS)
        return ("keyword" if text[begin:end] in KEYWORDS else "name"), end
    return "sign", _sign_end(text, begin)


def kind_of(thing):
    """Return the KIND of a string that is one word as a whole, None of any other value."""
    if not is_text(thing) or thing == "":
        return None
    kind, end = word_at(thing, 0)
    return kind if end == len(thing) else None


def is_name(thing):
    """Tell whether any value is a NAME."""
    return kind_of(thing) == "name"


def is_comment(thing):
    """Tell whether any value is a comment as it is written."""
    kind = kind_of(thing)
    return kind == "block" or kind == "line" and not thing.endswith(" ")
