"""What came of a text, with a name for each label: sums of pieces and names, rows of drafts."""

from loadanywhere.kinds import LETTERS
from loadanywhere.sums import with_times
from loadanywhere.textcoming import OPEN_ROWS, TEXT, brings_words, come_from
from loadanywhere.textlines import LABEL
from loadanywhere.words import CALLED, LONG, NEAR, coded


class SpareNames:
    """The names za, zb, .. that stand nowhere in a text as whole names, one after the other."""

    def __init__(self, text):
        apart = "".join([sign if sign in LETTERS else " " for sign in text])
        self.stood = {name: True for name in apart.split(" ")}
        self.drawn = 0

    def draw(self):
        while True:
            name = "z" + letters_of(self.drawn)
            self.drawn += 1
            if name not in self.stood:
                return name


def letters_of(number):
    """The text of letters of this number: a, b, .., z, aa, ab, .."""
    found = ""
    left = number + 1
    while left > 0:
        left -= 1
        found = LETTERS[left % 26] + found
        left = left // 26
    return found


def alone(kind, of):
    """The sum of an unknown alone."""
    return (0, (((kind, of), 1),))


class NamedText:
    """What came of a text. A SPOT is the name of the place of a row that needs one."""

    def __init__(self, text):
        self.coming = come_from(text)
        self.sequence = self.coming.sequence
        self.parts = self.coming.parts
        self.kind_by_piece = dict(self.parts)
        spare = SpareNames(text)
        self.labels = {}
        for item in self.sequence:
            if item.label is not None:
                self.labels[item.label] = item.label[1] if item.label[0] == TEXT else spare.draw()
        self.let_sums = []
        for let in self.coming.lets:
            self.let_sums.append(self.sum_of_worth(let))
        self.spots = {index: spare.draw() for index, item in enumerate(self.sequence) if needs_spot(item)}

    def meaning(self, part):
        """The sum that a reference to a name means, labels as names."""
        name, scope, let = part
        while scope != TEXT:
            around, own = self.coming.scopes[scope]
            if name in own:
                return alone("name", self.labels[(scope, name)])
            scope = around
        if let is not None:
            return self.let_sums[let]
        return alone("piece" if name in self.kind_by_piece else "name", name)

    def sum_of_worth(self, worth):
        """The sum of a worth, the place of the row aside."""
        found = (worth.number, ())
        for part, multiple in worth.parts.items():
            found = with_times(found, self.meaning(part), multiple)
        return found

    def aimed_name(self, item):
        """The name to which an open row goes."""
        return self.meaning(item.aim)[1][0][0][1]

    def words(self, index):
        """The sums that a row brings, but even and open ones, places of rows as spots."""
        item = self.sequence[index]
        spot = alone("name", self.spots[index]) if index in self.spots else (0, ())
        sums = [with_times(self.sum_of_worth(worth), spot, worth.heres) for worth in item.worths]
        if item.called == "word":
            return sums
        if item.called == "room":
            return [(0, ())] * item.many
        x, y = [*item.regs, 0, 0][:2]
        head = (coded(CALLED.index(item.called), x, y), ())
        if item.called in LONG:
            return [head, sums[0]]
        if item.called in NEAR:
            return [with_times(head, with_times(sums[0], spot, -1), 2048)]
        return [with_times(head, sums[0], 2048) if sums else head]

    def draft_row(self, index):
        item = self.sequence[index]
        if item.called == LABEL:
            return ("label", self.labels[item.label])
        if item.called == "even":
            return ("even", item.many)
        if item.called in OPEN_ROWS:
            return ("branch", item.called[:-3], self.aimed_name(item), 0)
        return ("words", tuple(self.words(index)))

    def draft_rows(self, piece):
        """The pairs (row of a draft, number of the item) of a piece; None for the number of a spot's row."""
        found = []
        for index, item in enumerate(self.sequence):
            if item.piece == piece and (item.called == LABEL or brings_words(item)):
                if index in self.spots:
                    found.append((("label", self.spots[index]), None))
                found.append((self.draft_row(index), index))
        return found


def needs_spot(item):
    return item.called in NEAR or any([worth.heres != 0 for worth in item.worths])
