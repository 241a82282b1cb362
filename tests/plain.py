"""Plain ways to cut and to read, for tests to hold the program against.

They are told by regular expressions and by calls of calls, one function for each level, and
share nothing with the package.
"""

import re

WORD_FORMS = (
    ("name", r"[A-Za-z_][A-Za-z_0-9]*"),
    ("number", r"[0-9]+(?:\.[0-9]+)?"),
    ("quote", r'"(?:[^"\\\n]|\\["\\nt])*"'),
    ("raw", r"'''(?:(?!''').)*'''"),
    ("block", r"<\*(?:(?!\*>).)*\*>"),
    ("line", r"#[^\n]*"),
    ("sign", r"==|!=|<=|>=|->|[()\[\]{},;:.=<>+\-*/^]"),
)
FORMS = tuple((kind, re.compile(form, re.DOTALL)) for kind, form in WORD_FORMS)
KEYWORDS = "let set give if else while for in def fn and or not true false none".split()


def kind_of(string):
    """The KIND of a string that is one word."""
    if not re.fullmatch(r"[ -~\n]*", string) or string.startswith("<*") and not FORMS[4][1].fullmatch(string):
        return None
    for kind, form in FORMS:
        if form.fullmatch(string):
            return "keyword" if string in KEYWORDS else kind
    return None


def place(text, index):
    """The PLACE of an index, sign by sign."""
    line = column = 0
    for sign in text[:index]:
        line, column = (line + 1, 0) if sign == "\n" else (line, column + 1)
    return line, column


def cut(text):
    """TOKENS and FAULTS of cutting, by the longest regular expression."""
    tokens, faults, at = [], [], 0
    while at < len(text):
        if text[at] in " \n":
            at += 1
            continue
        special = {'"': "quote", "'''": "raw", "<*": "block"}
        begun = [kind for sign, kind in special.items() if text.startswith(sign, at)]
        found = [(kind, form.match(text, at)) for kind, form in FORMS if not begun or kind in begun]
        found = [(len(match.group()), kind, match.group()) for kind, match in found if match]
        if found:
            size, kind, word = max(found)
            tokens.append(("keyword" if word in KEYWORDS else kind, word, at))
            at += size
            continue
        reason = begun[0] if begun else "sign"
        faults.append((place(text, at), reason))
        if reason == "sign":
            at += 1
        elif reason == "quote":
            while at < len(text) and text[at] != "\n":
                at += 1
        else:
            at = len(text)
    return tuple(tokens), tuple(faults)


class Fault(Exception):
    """What is wanted where the reader stands."""

    def __init__(self, wanted):
        super().__init__(wanted)
        self.wanted = wanted


class PlainReader:
    """Reads by recursion, as the grammar is written."""

    def __init__(self, text):
        self.tokens = [token for token in cut(text)[0] if token[0] not in ("line", "block")]
        self.begins = [place(text, token[2]) for token in self.tokens] + [place(text, len(text))]
        self.at = 0
        self.body_end = None
        self.faults = []
        self.mates = {}
        still = []
        for at, (_, word, _) in enumerate(self.tokens):
            if word in ("(", "[", "{"):
                still.append(at)
            elif word in (")", "]", "}"):
                self.mates[still.pop()] = at

    def word(self):
        return self.tokens[self.at][1] if self.at < len(self.tokens) else ""

    def kind(self):
        return self.tokens[self.at][0] if self.at < len(self.tokens) else "end"

    def take(self, word):
        if self.word() != word:
            raise Fault(word)
        self.at += 1

    def name(self):
        if self.kind() != "name":
            raise Fault("name")
        self.at += 1
        return self.tokens[self.at - 1][1]

    def statements(self, end):
        found = []
        while self.at != end:
            try:
                found.append(self.statement())
            except Fault as fault:
                self.faults.append((self.begins[self.at], fault.wanted))
                self.recover(end)
        return tuple(found)

    def recover(self, end):
        while self.at != end:
            if self.word() in ("let", "set", "give", "if", "while", "for", "def"):
                return
            if self.word() == ";":
                self.at += 1
                return
            if self.at in self.mates:
                self.at = self.mates[self.at]
            self.at += 1

    def can_begin(self):
        return self.kind() in ("name", "number", "quote", "raw") or self.word() in (
            "true", "false", "none", "[", "{", "(", "fn", "not", "-")

    def statement(self):
        word = self.word()
        if word in ("let", "set"):
            self.at += 1
            name = self.name()
            self.take("=")
            value = self.level(1)
            self.take(";")
            return (word, name, value)
        if word == "give":
            self.at += 1
            value = self.level(1) if self.can_begin() else None
            self.take(";")
            return ("give", value)
        if word == "if":
            return self.condition()
        if word == "while":
            self.at += 1
            test = self.level(1)
            return ("while", test, self.block())
        if word == "for":
            self.at += 1
            name = self.name()
            self.take("in")
            inside = self.level(1)
            return ("for", name, inside, self.block())
        if word == "def":
            self.at += 1
            name = self.name()
            self.take("(")
            names = self.listed(")", self.name, lambda: self.kind() == "name")
            return ("def", name, names, self.block())
        if not self.can_begin():
            raise Fault("statement")
        value = self.level(1)
        self.take(";")
        return ("do", value)

    def condition(self):
        self.take("if")
        test = self.level(1)
        block = self.block()
        other = None
        if self.word() == "else":
            self.at += 1
            other = self.condition() if self.word() == "if" else self.block()
        return ("if", test, block, other)

    def block(self):
        end = self.mates.get(self.at)
        self.take("{")
        found = self.statements(end)
        self.take("}")
        return found

    def listed(self, closing, item, can_begin):
        found = []
        if self.word() == closing:
            self.at += 1
            return ()
        if not can_begin():
            raise Fault(closing)
        while True:
            found.append(item())
            if self.word() != ",":
                self.take(closing)
                return tuple(found)
            self.at += 1

    def operator(self, words):
        """Take one of some operators, if it stands there, and not behind the body of an fn."""
        if self.at == self.body_end or self.word() not in words:
            return None
        self.at += 1
        return self.tokens[self.at - 1][1]

    def level(self, number):
        if number in (1, 2, 5, 6):
            words = {1: ("or",), 2: ("and",), 5: ("+", "-"), 6: ("*", "/")}[number]
            left = self.level(number + 1)
            while True:
                operator = self.operator(words)
                if operator is None:
                    return left
                left = ("two", operator, left, self.level(number + 1))
        if number in (3, 7) and self.word() == {3: "not", 7: "-"}[number]:
            self.at += 1
            return ({3: "not", 7: "minus"}[number], self.level(number))
        if number in (4, 8):
            words = ("==", "!=", "<", "<=", ">", ">=") if number == 4 else ("^",)
            left = self.level(number + 1)
            operator = self.operator(words)
            return left if operator is None else ("two", operator, left, self.level(5 if number == 4 else 7))
        if number == 9:
            return self.postfixed()
        return self.level(number + 1) if number < 9 else self.single()

    def postfixed(self):
        head = self.single()
        while True:
            sign = self.operator(("(", "[", "."))
            if sign == "(":
                head = ("call", head, self.listed(")", lambda: self.level(1), self.can_begin))
            elif sign == "[":
                head = ("index", head, self.level(1))
                self.take("]")
            elif sign == ".":
                head = ("field", head, self.name())
            else:
                return head

    def pair(self):
        key = self.level(1)
        self.take(":")
        return (key, self.level(1))

    def single(self):
        kind, word = self.kind(), self.word()
        if kind in ("number", "quote", "raw", "name"):
            self.at += 1
            return (kind, word)
        if word in ("true", "false", "none"):
            self.at += 1
            return ("word", word)
        if word == "(":
            self.at += 1
            inside = self.level(1)
            self.take(")")
            return inside
        if word == "[":
            self.at += 1
            return ("list", self.listed("]", lambda: self.level(1), self.can_begin))
        if word == "{":
            self.at += 1
            return ("map", self.listed("}", self.pair, self.can_begin))
        if word == "fn":
            self.at += 1
            self.take("(")
            names = self.listed(")", self.name, lambda: self.kind() == "name")
            self.take("->")
            body = self.level(1)
            self.body_end = self.at
            return ("fn", names, body)
        raise Fault("expression")


def read(text):
    """The program and the FAULTS of reading of a text whose brackets are pairs."""
    reader = PlainReader(text)
    program = reader.statements(len(reader.tokens))
    return program, reader.faults


class PlainRow:
    """The row of a program, the ranges of its expressions in it, and the spans of its statements."""

    def __init__(self, program):
        self.row = []
        self.ranges = []
        self.spans = []
        self.statements(program, 0)

    def words(self, *words):
        self.row.extend(words)

    def listed(self, parts, tell):
        for at, part in enumerate(parts):
            if at:
                self.words(",")
            tell(part)

    def expression(self, tree):
        begin = len(self.row)
        sort = tree[0]
        if sort == "two":
            self.expression(tree[2])
            self.words(tree[1])
            self.expression(tree[3])
        elif sort in ("not", "minus"):
            self.words("-" if sort == "minus" else sort)
            self.expression(tree[1])
        elif sort == "fn":
            self.words("fn", "(")
            self.listed(tree[1], self.words)
            self.words(")", "->")
            self.expression(tree[2])
        elif sort in ("call", "index", "field"):
            self.expression(tree[1])
            self.behind_head(sort, tree[2])
        elif sort == "list":
            self.words("[")
            self.listed(tree[1], self.expression)
            self.words("]")
        elif sort == "map":
            self.words("{")
            self.listed(tree[1], self.pair)
            self.words("}")
        else:
            self.words(tree[1])
        self.ranges.append((begin, len(self.row)))

    def behind_head(self, sort, part):
        if sort == "call":
            self.words("(")
            self.listed(part, self.expression)
            self.words(")")
        elif sort == "index":
            self.words("[")
            self.expression(part)
            self.words("]")
        else:
            self.words(".", part)

    def pair(self, pair):
        self.expression(pair[0])
        self.words(":")
        self.expression(pair[1])

    def statements(self, block, deep):
        for at, statement in enumerate(block):
            self.statement(statement, deep, at == 0)

    def block(self, block, deep):
        self.words("{")
        self.statements(block, deep + 1)
        self.words("}")

    def statement(self, tree, deep, is_first):
        place, begin = len(self.spans), len(self.row)
        self.spans.append(None)
        sort = tree[0]
        if sort in ("let", "set"):
            self.words(sort, tree[1], "=")
            self.expression(tree[2])
            self.words(";")
        elif sort in ("give", "do"):
            self.words(*["give"] * (sort == "give"))
            if tree[1] is not None:
                self.expression(tree[1])
            self.words(";")
        elif sort == "def":
            self.words("def", tree[1], "(")
            self.listed(tree[2], self.words)
            self.words(")")
            self.block(tree[3], deep)
        else:
            self.words(sort, *([tree[1], "in"] if sort == "for" else []))
            self.expression(tree[2] if sort == "for" else tree[1])
            self.block(tree[3] if sort == "for" else tree[2], deep)
            if sort == "if" and tree[3] is not None:
                self.words("else")
                if tree[3] and tree[3][0] == "if":
                    self.statement(tree[3], deep, False)
                else:
                    self.block(tree[3], deep)
        self.spans[place] = (begin, len(self.row), deep, is_first)
