"""A plain way from pages to documents, for tests to hold the program against.

It goes through trees by calls of calls, as point 28 is written, with a row for each `+`.
"""

from leastlaid.trees import ends_in_fn, level_of, operands, wants_brackets

HARD = ("hard",)
BARE = ((), ())


def flattened(document):
    """A document in which no row stands in a row, and none has just one document in it."""
    sort = document[0]
    if sort in ("row", "fill"):
        parts = [flattened(part) for part in document[1]]
        if sort == "fill":
            return ("fill", tuple(parts))
        inner = tuple(other for part in parts for other in (part[1] if part[0] == "row" else (part,)))
        return inner[0] if len(inner) == 1 else ("row", inner)
    return tuple(flattened(part) if isinstance(part, tuple) and sort != "raw" else part for part in document)


def row(*parts):
    return ("row", parts)


def string(word):
    return ("raw", tuple(word.split("\n"))) if "\n" in word else ("text", word)


def begins_hard(document):
    while document[0] in ("row", "group", "nest", "choice"):
        document = document[1][0] if document[0] == "row" else document[2 if document[0] == "nest" else 1]
    return document == HARD


def blank_ahead(document):
    """BLANK and what stands behind it."""
    return document if begins_hard(document) else row(("text", " "), document)


def last_fn(tree, path):
    """The place of the fn at the end of a tree."""
    while tree[0] != "fn":
        side, tree = operands(tree)[-1]
        path += (side,)
    return path


class Plain:
    """What is told of a page while its words are gone through in order."""

    def __init__(self, page, style):
        self.program, self.notes, self.blanks = page
        self.width, self.step, self.most, self.rank, self.operators, self.lists = style
        self.index = 0
        self.bracketed_fns = set()

    def word(self, word):
        ahead, behind = self.notes.get(self.index, BARE)
        self.index += 1
        parts = [row(HARD, string(comment), HARD) for comment in ahead]
        parts += [string(word)]
        parts += [row(("text", " "), string(comment)) for comment in behind]
        return row(*parts, *[HARD] * (bool(behind) and behind[-1].startswith("#")))

    def operand(self, tree, side, path):
        inside = dict(operands(tree))[side]
        place = path + (side,)
        wants = wants_brackets(tree, side)
        if side in ("left", "head") and (inside[0] == "fn" or ends_in_fn(inside) and not wants):
            self.bracketed_fns.add(last_fn(inside, place))
        told = self.expression(inside, place)
        return row(("text", "("), told, ("text", ")")) if wants else told

    def expression(self, tree, path=()):
        told = getattr(self, "of_" + tree[0], self.of_single)(tree, path)
        if tree[0] == "fn" and path in self.bracketed_fns:
            return row(("text", "("), told, ("text", ")"))
        return told

    def alone(self, tree):
        """An expression that is no operand: places are told from it on."""
        kept, self.bracketed_fns = self.bracketed_fns, set()
        told = self.expression(tree)
        self.bracketed_fns = kept
        return told

    def of_single(self, tree, path):
        return self.word(tree[1])

    def of_field(self, tree, path):
        return row(self.operand(tree, "head", path), self.word("."), self.word(tree[2]))

    def of_not(self, tree, path):
        return row(self.word("not"), blank_ahead(self.operand(tree, "inside", path)))

    def of_minus(self, tree, path):
        return row(self.word("-"), self.operand(tree, "inside", path))

    def names(self, names):
        parts = []
        for at, name in enumerate(names):
            if at:
                parts.append(self.word(","))
                parts.append(blank_ahead(self.word(name)))
            else:
                parts.append(self.word(name))
        return row(*parts)

    def of_fn(self, tree, path):
        head = row(self.word("fn"), self.word("("), self.names(tree[1]), self.word(")"))
        return row(head, blank_ahead(self.word("->")), blank_ahead(self.alone(tree[2])))

    def of_call(self, tree, path):
        head = self.operand(tree, "head", path)
        return row(head, self.bracketed("(", [lambda one=one: self.alone(one) for one in tree[2]], ")"))

    def of_index(self, tree, path):
        head = self.operand(tree, "head", path)
        return row(head, self.bracketed("[", [lambda: self.alone(tree[2])], "]"))

    def of_list(self, tree, path):
        return self.bracketed("[", [lambda one=one: self.alone(one) for one in tree[1]], "]")

    def of_map(self, tree, path):
        return self.bracketed("{", [lambda one=one: self.pair(one) for one in tree[1]], "}")

    def pair(self, pair):
        return row(self.alone(pair[0]), self.word(":"), blank_ahead(self.alone(pair[1])))

    def bracketed(self, opening, items, closing):
        opened = self.word(opening)
        begin = self.index
        told = []
        for at, item in enumerate(items):
            one = item()
            told.append(row(one, self.word(",")) if at + 1 < len(items) else one)
        noted = [index for index in range(begin, self.index) if index in self.notes]
        closed = self.word(closing)
        if not items:
            return row(opened, closed)
        if self.lists == "fill" and not noted:
            inside = ("fill", tuple(told))
        else:
            inside = told[0]
            for one in told[1:]:
                inside = row(inside, ("line", " "), one)
        group = ("group", row(("nest", self.step, row(("line", ""), inside)), ("line", "")))
        return row(opened, group, closed)

    def chain(self, tree, path):
        """The first operand, and for each operator what stands behind that."""
        left = tree[2]
        if level_of(tree) != 4 and left[0] == "two" and level_of(left) == level_of(tree):
            if ends_in_fn(left):
                self.bracketed_fns.add(last_fn(left, path + ("left",)))
            first, others = self.chain(left, path + ("left",))
        else:
            first, others = self.operand(tree, "left", path), []
        word = self.word(tree[1])
        right = self.operand(tree, "right", path)
        if self.operators == "behind":
            return first, others + [row(blank_ahead(word), ("line", " "), right)]
        return first, others + [row(("line", " "), word, blank_ahead(right))]

    def of_two(self, tree, path):
        if tree[1] == "^":
            left = self.operand(tree, "left", path)
            return row(left, blank_ahead(self.word("^")), blank_ahead(self.operand(tree, "right", path)))
        first, others = self.chain(tree, path)
        return ("group", row(first, ("nest", self.step, row(*others))))

    def value(self, tree):
        told = self.alone(tree)
        return ("choice", blank_ahead(told), ("nest", self.step, row(HARD, told)))

    def apart(self):
        many = min(self.blanks.get(self.index, 0), self.most)
        return row(*[("blank",)] * many) if many else HARD

    def block(self, block):
        opened = self.word("{")
        parts = [HARD]
        for at, statement in enumerate(block):
            if at:
                parts.append(self.apart())
            parts.append(self.statement(statement))
        if block:
            return row(opened, ("nest", self.step, row(*parts)), HARD, self.word("}"))
        return row(opened, self.word("}"))

    def statement(self, tree):
        sort = tree[0]
        if sort in ("let", "set"):
            head = row(self.word(sort), blank_ahead(self.word(tree[1])), blank_ahead(self.word("=")))
            return row(head, self.value(tree[2]), self.word(";"))
        if sort == "give":
            return row(self.word("give"), *[self.value(one) for one in tree[1:] if one], self.word(";"))
        if sort == "do":
            return row(self.alone(tree[1]), self.word(";"))
        if sort == "if":
            told = row(self.word("if"), blank_ahead(self.alone(tree[1])), blank_ahead(self.block(tree[2])))
            if tree[3] is None:
                return told
            told = row(told, blank_ahead(self.word("else")))
            is_if = tree[3][:1] == ("if",)
            return row(told, blank_ahead(self.statement(tree[3]) if is_if else self.block(tree[3])))
        if sort == "while":
            return row(self.word("while"), blank_ahead(self.alone(tree[1])), blank_ahead(self.block(tree[2])))
        if sort == "for":
            head = row(self.word("for"), blank_ahead(self.word(tree[1])), blank_ahead(self.word("in")))
            return row(head, blank_ahead(self.alone(tree[2])), blank_ahead(self.block(tree[3])))
        head = row(self.word("def"), blank_ahead(self.word(tree[1])), self.word("("), self.names(tree[2]), self.word(")"))
        return row(head, blank_ahead(self.block(tree[3])))

    def all(self):
        parts = []
        for at, statement in enumerate(self.program):
            if at:
                parts.append(self.apart())
            parts.append(self.statement(statement))
        comments = self.notes.get(self.index, BARE)[0]
        if comments and self.program:
            parts.append(self.apart())
        for at, comment in enumerate(comments):
            parts += [HARD] * bool(at) + [string(comment)]
        return row(*parts, HARD) if parts else row()


def document(page, style):
    """The document of a page by a style, flattened."""
    return flattened(Plain(page, style).all())
