"""Pages: a program with its comments at their OWNERS, and with its empty lines."""

from leastlaid.owners import blank_lines_among, can_be_behind, marked, owned_among
from leastlaid.rows import row_of, statement_spans, words_of
from leastlaid.trees import is_program
from leastlaid.words import is_comment, is_integer

BARE = ((), ())


def _sorted_dict(table):
    """Return a dict with ascending keys."""
    return {key: table[key] for key in sorted(table)}


def _notes_of(comments):
    """Return the notes of what owned tells: comments are told in order, so their OWNERS ascend."""
    notes = {}
    for comment, _, index, side in comments:
        ahead, behind = notes.get(index, BARE)
        notes[index] = (ahead + (comment,), behind) if side == "ahead" else (ahead, behind + (comment,))
    return notes


def page_of(text):
    """Return the PAGE of a text."""
    program, marks = marked(text)
    notes = _notes_of(owned_among(text, marks))
    counted = blank_lines_among(text, program, marks)
    return program, notes, {index: counted[index] for index in counted if counted[index] > 0}


def _are_comments(thing):
    """Tell whether any value is a tuple of comments."""
    return isinstance(thing, tuple) and all([is_comment(part) for part in thing])


def _is_note(thing):
    """Tell whether any value can be a tuple of the comments ahead and behind in the notes."""
    if not isinstance(thing, tuple) or len(thing) != 2 or thing == BARE:
        return False
    return all([_are_comments(part) for part in thing]) and can_be_behind(thing[1])


def _are_notes(thing, end):
    """Tell whether any value can be the notes of a program with this END."""
    if not isinstance(thing, dict):
        return False
    for index in thing:
        if not is_integer(index) or not 0 <= index <= end or not _is_note(thing[index]):
            return False
    return end not in thing or thing[end][1] == ()


def _can_have_blanks(program, row):
    """Return the dict of the indexes of first words ahead of which empty lines are counted."""
    return {
        begin: True for begin, _, _, is_first in statement_spans(program)
        if not is_first and row[begin - 1] != "else"
    }


def _are_blanks(thing, program, row, notes):
    """Tell whether any value can be the blanks of a program with some notes."""
    if not isinstance(thing, dict):
        return False
    places = _can_have_blanks(program, row)
    if program and len(row) in notes:
        places[len(row)] = True
    for index in thing:
        if not is_integer(index) or index not in places:
            return False
        if not is_integer(thing[index]) or thing[index] < 1:
            return False
    return True


def is_page(thing):
    """Tell whether any value is the PAGE of some text."""
    if not isinstance(thing, tuple) or len(thing) != 3 or not is_program(thing[0]):
        return False
    program, notes, blanks = thing
    row = row_of(program)
    return _are_notes(notes, len(row)) and _are_blanks(blanks, program, row, notes)


def same_page(one, other):
    """Tell whether two PAGES are the same, whatever the order of keys."""
    return one == other


def in_order(page):
    """Return a PAGE with ascending keys."""
    program, notes, blanks = page
    return program, _sorted_dict(notes), _sorted_dict(blanks)


def clipped(page, most):
    """Return a PAGE in which no more than so many empty lines stand anywhere."""
    program, notes, blanks = in_order(page)
    return program, notes, {index: min(blanks[index], most) for index in blanks if min(blanks[index], most) > 0}


def bare(page):
    """Return a PAGE without its comments and blanks."""
    return page[0], {}, {}


def text_of(page):
    """Return a text, line by line, that has a PAGE."""
    program, notes, blanks = page
    lines = []
    # Where empty lines stand, all brackets ahead are opened there: none is closed ahead of a statement.
    brackets = []
    end = 0
    for word, index in words_of(program):
        if index is None:
            brackets.append(word)
            continue
        ahead, behind = notes.get(index, BARE)
        lines.extend([""] * blanks.get(index, 0) + brackets + list(ahead))
        lines.append(" ".join([word] + list(behind)))
        brackets = []
        end = index + 1
    lines.extend([""] * blanks.get(end, 0) + list(notes.get(end, BARE)[0]))
    return "\n".join(lines)


def _begins_of(programs):
    """Return the indexes at which the rows of some programs begin if they stand behind one another, and their END."""
    begins = [0]
    for program in programs:
        begins.append(begins[-1] + len(row_of(program)))
    return begins


def parted(page):
    """Return the PARTS of a PAGE, the empty lines ahead of the comments of the END, and these."""
    program, notes, blanks = in_order(page)
    begins = _begins_of([(statement,) for statement in program])
    pages = [((statement,), {}, {}) for statement in program]
    # For each word of the row the place of the statement in which it stands.
    places = [at for at in range(len(program)) for _ in range(begins[at], begins[at + 1])]
    end = begins[-1]
    for index in notes:
        if index < end:
            at = places[index]
            pages[at][1][index - begins[at]] = notes[index]
    for index in blanks:
        if index < end and index != begins[places[index]]:
            at = places[index]
            pages[at][2][index - begins[at]] = blanks[index]
    parts = [(blanks.get(begins[at], 0), pages[at]) for at in range(len(program))]
    return tuple(parts), blanks.get(end, 0), notes.get(end, BARE)[0]


def put_together(parts, empty, comments):
    """Return the PAGE that has some PARTS, empty lines and comments of the END."""
    begins = _begins_of([page[0] for _, page in parts])
    statements = []
    notes = {}
    blanks = {}
    for at, (many, page) in enumerate(parts):
        program, inner_notes, inner_blanks = in_order(page)
        statements.extend(program)
        if many > 0:
            blanks[begins[at]] = many
        for index in inner_notes:
            notes[begins[at] + index] = inner_notes[index]
        for index in inner_blanks:
            blanks[begins[at] + index] = inner_blanks[index]
    if comments:
        notes[begins[-1]] = (tuple(comments), ())
    if empty > 0:
        blanks[begins[-1]] = empty
    return tuple(statements), notes, blanks
