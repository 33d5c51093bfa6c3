"""The rows of texts as they come, one behind the other: blocks, uses of macros, lets, and whose a label is."""

from loadanywhere.errors import BadRow, NoLabel, NotAhead, NotFit, NotPlain, SameRow
from loadanywhere.textlines import FORMS, LABEL, REGISTERS, read_lines
from loadanywhere.textsums import HERE, ONE, Worth, worth_of_name, worth_of_terms

# The scope of what stands in no macro and no again.
TEXT = 0

OPEN_ROWS = ("askany", "goany", "callany")

# The least and the greatest N; a when takes any.
BOUNDS = {"room": (0, 1000), "even": (1, 64), "again": (0, 1000)}


class Passed:
    """What is passed for a parameter: the number of a register, or None; a worth; the label (scope, name) it names."""

    def __init__(self, place, worth, label):
        self.place = place
        self.worth = worth
        self.label = label


class Frame:
    """Where rows come: by which uses, in which scope of labels, with what is passed, in the macro of which row."""

    def __init__(self, path, scope, passed, macro):
        self.path = path
        self.level = scope
        self.passed = passed
        self.macro = macro


class Item:
    """A row that came and is told in some way: its lines, its word, its piece by number, what stands in it.

    A label is a pair (scope, name); many is the N of room and even; aim is the reference to which an open row goes.
    """

    def __init__(self, lines, called, piece):
        self.lines = lines
        self.called = called
        self.piece = piece
        self.regs = []
        self.worths = []
        self.label = None
        self.many = 0
        self.aim = None


class Coming:
    """What came so far: pieces (name, kind), items, told rows, names that stood, scopes, lets, macros."""

    def __init__(self):
        self.parts = []
        self.sequence = []
        self.told_items = []
        self.stood = {}
        self.scopes = [(None, {})]
        self.lets = []
        self.let_numbers = {}
        self.macros = {}

    def come(self, rows, frame):
        for row in rows:
            lines = (*frame.path, row.number)
            action = ACTIONS.get(row.called, come_words)
            action(self, row, frame, lines)

    def note_name(self, lines, name):
        """Notes a piece, a label of the text, a let or a macro."""
        if name in self.stood:
            raise SameRow(lines, name)
        self.stood[name] = True

    def new_scope(self, around):
        self.scopes.append((around, {}))
        return len(self.scopes) - 1

    def piece_here(self, row):
        if not self.parts:
            raise BadRow(row.number)
        return len(self.parts) - 1

    def worth_of(self, terms, frame, lines):
        """What the terms of a sum come to; NotFit for a parameter that is a register."""
        pairs = []
        for multiple, atom in terms:
            if atom == ONE:
                pairs.append((1, Worth(multiple, 0, multiple)))
            elif atom == HERE:
                pairs.append((multiple, Worth(0, 1, None)))
            elif atom not in frame.passed:
                pairs.append((multiple, self.worth_in(atom, frame.level)))
            elif frame.passed[atom].worth is None:
                raise NotFit(lines)
            else:
                pairs.append((multiple, frame.passed[atom].worth))
        return worth_of_terms(pairs)

    def worth_in(self, name, scope):
        let = self.let_numbers.get(name)
        return worth_of_name((name, scope, let), None if let is None else self.lets[let])

    def plain_number(self, row, frame, lines):
        """The N of a row, within its bounds."""
        number = self.worth_of(row.things[0], frame, lines).plain
        if number is None:
            raise NotPlain(lines)
        if row.called in BOUNDS and not BOUNDS[row.called][0] <= number <= BOUNDS[row.called][1]:
            raise NotPlain(lines)
        return number

    def check_told(self):
        """NoLabel for the first told row of what is no label of the text with a word behind it."""
        for item in self.told_items:
            labels = [index for index, other in enumerate(self.sequence) if other.label == item.label]
            if not labels or not self.has_words_behind(labels[0]):
                raise NoLabel(item.lines, item.label[1])

    def has_words_behind(self, index):
        """Whether a row of the same piece behind an item brings a word, even rows aside."""
        piece = self.sequence[index].piece
        return any([item.piece == piece and brings_word(item) for item in self.sequence[index:]])


def brings_word(item):
    if item.called == "room":
        return item.many > 0
    return brings_words(item) and item.called != "even"


def brings_words(item):
    """Whether an item is a row that brings words, or could."""
    return item.called not in (LABEL, "code", "data", "told")


def come_piece(coming, row, frame, lines):
    coming.note_name(lines, row.things[0])
    coming.parts.append((row.things[0], row.called))
    coming.sequence.append(Item(lines, row.called, len(coming.parts) - 1))


def come_told(coming, row, frame, lines):
    label = (TEXT, row.things[0])
    if label in [item.label for item in coming.told_items]:
        raise SameRow(lines, row.things[0])
    item = Item(lines, row.called, None)
    item.label = label
    coming.told_items.append(item)


def come_let(coming, row, frame, lines):
    name, terms = row.things
    coming.note_name(lines, name)
    coming.lets.append(coming.worth_of(terms, frame, lines))
    coming.let_numbers[name] = len(coming.lets) - 1


def come_macro(coming, row, frame, lines):
    coming.note_name(lines, row.things[0])
    coming.macros[row.things[0]] = row


def come_again(coming, row, frame, lines):
    many = coming.plain_number(row, frame, lines)
    if row.body:
        for _ in range(many):
            coming.come(row.body, Frame(frame.path, coming.new_scope(frame.level), frame.passed, frame.macro))


def come_when(coming, row, frame, lines):
    number = coming.plain_number(row, frame, lines)
    coming.come(row.others if number == 0 else row.body, frame)


def passed_thing(coming, thing, frame, lines):
    """What a thing that is passed by a use is there: one parameter alone goes on as what it is."""
    if isinstance(thing, str):
        return Passed(REGISTERS.index(thing), None, None)
    label = None
    if len(thing) == 1 and thing[0][0] == 1 and thing[0][1] != ONE:
        name = thing[0][1]
        if name in frame.passed:
            return frame.passed[name]
        label = (frame.level, name)
    return Passed(None, coming.worth_of(thing, frame, lines), label)


def come_use(coming, row, frame, lines):
    name = row.things[0]
    macro = coming.macros.get(name)
    if macro is None or (frame.macro is not None and macro.number >= frame.macro):
        raise NotAhead(lines, name)
    parameters = macro.things[1:]
    if len(row.things) - 1 != len(parameters):
        raise NotFit(lines)
    passed = [passed_thing(coming, thing, frame, lines) for thing in row.things[1:]]
    scope = coming.new_scope(TEXT)
    coming.come(macro.body, Frame(lines, scope, dict(zip(parameters, passed)), macro.number))


def come_label(coming, row, frame, lines):
    piece = coming.piece_here(row)
    label = (frame.level, row.things[0])
    if row.things[0] in frame.passed:
        label = frame.passed[row.things[0]].label
    if label is None or label[1] in FORMS:
        raise NotFit(lines)
    scope, name = label
    if scope == TEXT:
        coming.note_name(lines, name)
    labels = coming.scopes[scope][1]
    if name in labels:
        raise SameRow(lines, name)
    labels[name] = len(coming.sequence)
    item = Item(lines, row.called, piece)
    item.label = label
    coming.sequence.append(item)


def place_of(word, frame, lines):
    """The number of a register, or of the one that a parameter stands for."""
    if word in REGISTERS:
        return REGISTERS.index(word)
    if frame.passed[word].place is None:
        raise NotFit(lines)
    return frame.passed[word].place


def come_words(coming, row, frame, lines):
    """A row that brings words."""
    piece = coming.piece_here(row)
    if row.called in OPEN_ROWS and coming.parts[piece][1] == "data":
        raise BadRow(row.number)
    item = Item(lines, row.called, piece)
    if row.called in ("room", "even"):
        item.many = coming.plain_number(row, frame, lines)
    else:
        item.regs = [place_of(thing, frame, lines) for thing in row.things if isinstance(thing, str)]
        item.worths = [coming.worth_of(thing, frame, lines) for thing in row.things if not isinstance(thing, str)]
    if row.called in OPEN_ROWS:
        single = item.worths[0].single
        if single is None or single[1] != 1:
            raise NotPlain(lines)
        item.aim = single[0]
    coming.sequence.append(item)


# Labels and uses are called so by LABEL and USE; all rows that are not here bring words.
ACTIONS = {
    "code": come_piece, "data": come_piece, "told": come_told, "let": come_let, "macro": come_macro,
    "again": come_again, "when": come_when, "label row": come_label, "use row": come_use,
}


def come_from(text):
    """What comes of a text; errors up to those of told rows."""
    rows = read_lines(text)
    coming = Coming()
    coming.come(rows, Frame((), TEXT, {}, None))
    coming.check_told()
    return coming
