"""The lines of texts, each looked at alone, read as rows with the rows of their blocks."""

from loadanywhere.errors import BadRow, BadText
from loadanywhere.kinds import is_name
from loadanywhere.textsums import has_here, read_terms

REGISTERS = ("r0", "r1", "r2", "r3", "r4", "r5", "r6", "r7")

# What stands behind the first word: x a register, s a sum, n a sum without @, p a name that is no word of a row.
FORMS = {
    "stop": "", "take": "x", "tell": "x", "copy": "xx", "add": "xx", "less": "xx", "jump": "x",
    "load": "xxs", "store": "xxs", "ask": "s", "go": "s", "call": "s", "here": "xs",
    "askfar": "s", "gofar": "s", "callfar": "s", "set": "xs", "askany": "s", "goany": "s", "callany": "s",
    "word": "s", "room": "n", "even": "n", "code": "p", "data": "p", "told": "p", "let": "pn",
    "macro": "p", "again": "n", "when": "n", "other": "", "end": "",
}

# Behind the first of these words there is one or more of what stands behind it, behind the second none or more.
REPEATED = ("word", "macro")

# Rows that stand in no block, and rows that begin one.
OUTERMOST = ("macro", "let", "code", "data", "told")
BLOCKS = ("macro", "again", "when")
DEEPEST = 6

# What rows are called that have no first word of their own.
LABEL = "label row"
USE = "use row"


class Row:
    """A line that is a row: its number, its first word, what stands behind it, the rows of its block."""

    def __init__(self, number, called, things):
        self.number = number
        self.called = called
        self.things = things
        self.body = []
        self.others = []
        self.is_parted = False


def read_new_name(word):
    return word if is_name(word) and word not in FORMS else None


def read_plain_terms(word):
    """A word as the terms of a sum without @; None if it is none."""
    terms = read_terms(word)
    return None if terms is None or has_here(terms) else terms


def read_thing(sign, word, parameters):
    """A word as what a sign of FORMS stands for; None if it is none."""
    if sign == "x":
        return word if word in REGISTERS or word in parameters else None
    if sign == "p":
        return read_new_name(word)
    return read_terms(word) if sign == "s" else read_plain_terms(word)


def read_passed(word):
    return word if word in REGISTERS else read_plain_terms(word)


def read_label(word, number):
    name = read_new_name(word[:-1])
    return None if name is None else Row(number, LABEL, [name])


def read_use(words, number):
    passed = [read_passed(word) for word in words[1:]]
    return None if None in passed or not is_name(words[0]) else Row(number, USE, [words[0], *passed])


def read_row(words, number, parameters):
    """The words of a line as a row, wherever it stands; None if they are none."""
    called = words[0]
    if len(words) == 1 and called.endswith(":"):
        return read_label(called, number)
    if called not in FORMS:
        return read_use(words, number)
    form = FORMS[called]
    if called in REPEATED and len(words) > 1:
        form = form * (len(words) - 1)
    if len(form) != len(words) - 1:
        return None
    things = [read_thing(sign, word, parameters) for sign, word in zip(form, words[1:])]
    if None in things or (called == "macro" and len({name: True for name in things[1:]}) < len(things) - 1):
        return None
    return Row(number, called, things)


class Reader:
    """The rows read so far, the blocks that are not ended, the numbers of lines that are no rows."""

    def __init__(self):
        self.top = []
        self.blocks = []
        self.wrong = []

    def parameters(self):
        """The parameters of the macro around."""
        if self.blocks and self.blocks[0].called == "macro":
            return self.blocks[0].things[1:]
        return []

    def can_stand(self, row):
        if row.called == "end":
            return len(self.blocks) > 0
        if row.called == "other":
            return len(self.blocks) > 0 and self.blocks[-1].called == "when" and not self.blocks[-1].is_parted
        if row.called in OUTERMOST and self.blocks:
            return False
        return row.called not in BLOCKS or len(self.blocks) < DEEPEST

    def put(self, row):
        if row.called == "end":
            self.blocks.pop()
        elif row.called == "other":
            block = self.blocks[-1]
            block.is_parted = True
        else:
            self.put_row(row)

    def put_row(self, row):
        rows = self.top
        if self.blocks:
            rows = self.blocks[-1].others if self.blocks[-1].is_parted else self.blocks[-1].body
        rows.append(row)
        if row.called in BLOCKS:
            self.blocks.append(row)

    def read(self, number, line):
        if line == "":
            return
        row = read_row(line.split(" "), number, self.parameters())
        if row is None or not self.can_stand(row):
            self.wrong.append(number)
        else:
            self.put(row)


def read_lines(text):
    """The rows of a text outside of all blocks; errors of lines that are looked at alone."""
    if not isinstance(text, str):
        raise BadText(text)
    reader = Reader()
    for number, line in enumerate(text.split("\n"), start=1):
        reader.read(number, line)
    wrong = reader.wrong + [row.number for row in reader.blocks]
    if wrong:
        raise BadRow(min(wrong))
    return reader.top
