"""Reading: from a text to its program, with all its FAULTS.

What is still to be read is kept as a list of goals, the next one last; each goal is a tuple
(step, argument). So texts may be deeper than calls may be. A step returns None, or what is
wanted if there is a FAULT.
"""

from leastlaid.brackets import paired
from leastlaid.cutting import cut, place_of
from leastlaid.errors import Faulty, Wrong
from leastlaid.trees import CONSTANTS, LEAST_LEFT, LEAST_RIGHT, OPERATORS
from leastlaid.words import is_text

# What is to be read behind the first word of each statement.
STATEMENTS = {
    "let": (("name", ""), ("word", "="), ("expression", 1), ("word", ";"), ("tree", ("let", 2))),
    "set": (("name", ""), ("word", "="), ("expression", 1), ("word", ";"), ("tree", ("set", 2))),
    "give": (("given", ""), ("word", ";"), ("tree", ("give", 1))),
    "if": (("expression", 1), ("block", ""), ("other", ""), ("tree", ("if", 3))),
    "while": (("expression", 1), ("block", ""), ("tree", ("while", 2))),
    "for": (("name", ""), ("word", "in"), ("expression", 1), ("block", ""), ("tree", ("for", 3))),
    "def": (("name", ""), ("word", "("), ("items", (")", "name")), ("block", ""), ("tree", ("def", 3))),
}
DO = (("expression", 1), ("word", ";"), ("tree", ("do", 1)))

# What is to be read behind the first word of expressions that are no single word.
BEGINNINGS = {
    "not": (("expression", 3), ("inside", ("not", 3))),
    "-": (("expression", 7), ("inside", ("minus", 7))),
    "(": (("expression", 1), ("word", ")"), ("level", 10)),
    "[": (("items", ("]", "item")), ("tree", ("list", 1)), ("level", 10)),
    "{": (("items", ("}", "pair")), ("tree", ("map", 1)), ("level", 10)),
    # Nothing goes on behind a body, so its level is less than what any operator needs.
    "fn": (
        ("word", "("), ("items", (")", "name")), ("word", "->"), ("expression", 1), ("tree", ("fn", 2)), ("level", 0),
    ),
}
# What is to be read behind a sign that stands behind an expression.
ENDINGS = {
    "(": (("items", (")", "item")), ("tree", ("call", 2)), ("level", 9)),
    "[": (("expression", 1), ("word", "]"), ("tree", ("index", 2)), ("level", 9)),
    ".": (("name", ""), ("tree", ("field", 2)), ("level", 9)),
}
# What is to be read of each thing in a list, by what the list is of.
ITEMS = {
    "item": (("expression", 1),),
    "pair": (("expression", 1), ("word", ":"), ("expression", 1), ("pair", "")),
    "name": (("name", ""),),
}


class Reader:
    """The state of reading: where it stands, what is still to be read, and what has been made."""

    def __init__(self, tokens, mates):
        self.tokens = tokens
        self.mates = mates
        self.at = 0
        self.goals = [("statements", (len(tokens) - 1, 0))]
        self.made = []
        # That of the expression read last, as it stands there: 10 in brackets, 0 behind a body of fn.
        self.level = 0
        self.groups = []
        self.faults = []

    def kind(self):
        """Return the KIND of the next word."""
        return self.tokens[self.at][0]

    def word(self):
        """Return the next word, "" at the end."""
        return self.tokens[self.at][1]

    def push(self, goals):
        """Let some goals come next, the first one first."""
        self.goals.extend(goals[::-1])

    def take(self, many):
        """Take away the last things that have been made, and return their tuple."""
        begin = len(self.made) - many
        things = tuple(self.made[begin:])
        del self.made[begin:]
        return things

    def begins_expression(self):
        """Tell whether the next word begins an expression."""
        if self.kind() in ("number", "quote", "raw", "name"):
            return True
        return self.word() in BEGINNINGS or self.word() in CONSTANTS

    def recover(self):
        """Go on, behind a FAULT, to where a statement of the innermost block can begin.

        What the faulty statement has made stays there: no one looks at it any more.
        """
        while self.goals[-1][0] != "statements":
            self.goals.pop()
        end = self.goals[-1][1][0]
        while self.at != end and self.word() not in STATEMENTS:
            passed = self.word()
            self.at = self.mates.get(self.at, self.at) + 1
            if passed == ";":
                return

    def read(self):
        """Read all, and return the program; it is one only if there are no faults."""
        while self.goals:
            name, argument = self.goals.pop()
            step = STEPS[name]
            wanted = step(self, argument)
            if wanted is not None:
                self.faults.append((self.at, wanted))
                self.recover()
        return self.made[0]


def _read_statements(reader, block):
    """Read the next statement of a block, or its end; it knows where that is, and what it has made."""
    end, begin = block
    if reader.at == end:
        reader.made.append(reader.take(len(reader.made) - begin))
        # The program ends where all ends, a block at its bracket.
        reader.at += 1
        return None
    reader.goals.append(("statements", block))
    if reader.word() in STATEMENTS:
        reader.push(STATEMENTS[reader.word()])
        reader.at += 1
        return None
    if not reader.begins_expression():
        return "statement"
    reader.push(DO)
    return None


def _read_block(reader, _):
    """Read the bracket that opens a block; its statements come next."""
    if reader.word() != "{":
        return "{"
    reader.goals.append(("statements", (reader.mates[reader.at], len(reader.made))))
    reader.at += 1
    return None


def _read_other(reader, _):
    """Read what may stand behind the block of an if statement."""
    if reader.word() != "else":
        reader.made.append(None)
        return None
    reader.at += 1
    if reader.word() != "if":
        return _read_block(reader, "")
    reader.at += 1
    reader.push(STATEMENTS["if"])
    return None


def _read_given(reader, _):
    """Read what may stand behind give."""
    if reader.begins_expression():
        reader.goals.append(("expression", 1))
    else:
        reader.made.append(None)
    return None


def _read_word(reader, word):
    """Read a word that has to stand there."""
    if reader.word() != word:
        return word
    reader.at += 1
    return None


def _read_name(reader, _):
    """Read a NAME."""
    if reader.kind() != "name":
        return "name"
    reader.made.append(reader.word())
    reader.at += 1
    return None


def _read_items(reader, form):
    """Read the first item between two brackets, or the bracket that closes them."""
    closing, sort = form
    if reader.word() == closing:
        reader.at += 1
        reader.made.append(())
        return None
    can_begin = reader.kind() == "name" if sort == "name" else reader.begins_expression()
    if not can_begin:
        return closing
    reader.goals.append(("more", (closing, sort, len(reader.made))))
    reader.push(ITEMS[sort])
    return None


def _read_more(reader, items):
    """Read another item, or the bracket that closes them; it knows which, and where the first one is."""
    closing, sort, begin = items
    if reader.word() == ",":
        reader.at += 1
        reader.goals.append(("more", items))
        reader.push(ITEMS[sort])
        return None
    if reader.word() != closing:
        return closing
    reader.at += 1
    reader.made.append(reader.take(len(reader.made) - begin))
    return None


def _read_expression(reader, least):
    """Read an expression of some level or more."""
    word = reader.word()
    if not reader.begins_expression() or word == "not" and least > 3:
        return "expression"
    reader.goals.append(("tail", least))
    if word in BEGINNINGS:
        if word == "(":
            reader.groups.extend([reader.at, reader.mates[reader.at]])
        reader.push(BEGINNINGS[word])
    else:
        reader.made.append(("word" if word in CONSTANTS else reader.kind(), word))
        reader.level = 10
    reader.at += 1
    return None


def _read_tail(reader, least):
    """Read what goes on behind an expression, if something does, in one of some level or more."""
    word = reader.word()
    if word in ENDINGS and reader.level >= 9:
        reader.goals.append(("tail", least))
        reader.push(ENDINGS[word])
        reader.at += 1
    elif word in OPERATORS:
        level = OPERATORS[word]
        if level >= least and reader.level >= LEAST_LEFT[level]:
            reader.goals.append(("tail", least))
            reader.push((("expression", LEAST_RIGHT[level]), ("two", word)))
            reader.at += 1
    return None


def _make_tree(reader, form):
    """Make a tree of the parts made last."""
    name, many = form
    reader.made.append((name,) + reader.take(many))


def _make_pair(reader, _):
    """Make a pair of the key and the value made last."""
    reader.made.append(reader.take(2))


def _make_inside(reader, form):
    """Make the tree of an operator ahead of the expression made last."""
    name, level = form
    reader.made.append((name,) + reader.take(1))
    _set_level(reader, level)


def _make_two(reader, operator):
    """Make the tree of an operator between the two expressions made last."""
    reader.made.append(("two", operator) + reader.take(2))
    _set_level(reader, OPERATORS[operator])


def _set_level(reader, level):
    """Keep the level of an expression that ends with the one read last."""
    if reader.level > 0:
        reader.level = level


def _end_level(reader, level):
    """Keep the level of an expression that ends with a word of its own."""
    reader.level = level


STEPS = {
    "statements": _read_statements,
    "block": _read_block,
    "other": _read_other,
    "given": _read_given,
    "word": _read_word,
    "name": _read_name,
    "items": _read_items,
    "more": _read_more,
    "expression": _read_expression,
    "tail": _read_tail,
    "tree": _make_tree,
    "pair": _make_pair,
    "inside": _make_inside,
    "two": _make_two,
    "level": _end_level,
}


def is_comment_token(token):
    """Tell whether a TOKEN is a comment."""
    return token[0] in ("line", "block")


def read_text(text):
    """Return the FAULTS of a text, its program, and the indexes of its grouping brackets.

    The last two mean something only if there are no faults.
    """
    tokens, faults = cut(text)
    words = [token for token in tokens if not is_comment_token(token)]
    if not faults:
        mates, faults = paired(text, words)
    if faults:
        return faults, (), ()
    reader = Reader(words + [("end", "", len(text))], mates)
    program = reader.read()
    faults = tuple([(place_of(text, reader.tokens[at][2]), wanted) for at, wanted in reader.faults])
    return faults, program, tuple([words[at][2] for at in reader.groups])


def faults_of(text):
    """Return the list of the FAULTS of a TEXT."""
    if not is_text(text):
        raise Wrong(0)
    return list(read_text(text)[0])


def read_program(text):
    """Return the PROGRAM of a TEXT."""
    if not is_text(text):
        raise Wrong(0)
    faults, program, _ = read_text(text)
    if faults:
        raise Faulty(faults)
    return program


def read_row(words):
    """Return the PROGRAM that some words tell, None if they tell none."""
    faults, program, _ = read_text(" ".join(words))
    return None if faults else program
