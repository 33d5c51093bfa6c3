"""Texts assembled to units; which row brings which words; drafts of pieces."""

from loadanywhere.draftrows import is_too_long, measured, words_of_row
from loadanywhere.drafts import Draft
from loadanywhere.errors import BadChoice, BadFar, NoPiece, NoWord, TooFar
from loadanywhere.kinds import is_name, read_address
from loadanywhere.sums import address_in, sum_at
from loadanywhere.textcoming import OPEN_ROWS, brings_words
from loadanywhere.textnames import NamedText, alone
from loadanywhere.units import Unit
from loadanywhere.words import NEAR


class LaidPiece:
    """A piece of a text whose open rows are chosen: its rows, their offsets, which items they are."""

    def __init__(self, p, kind, pairs):
        self.p = p
        self.kind = kind
        self.row_list = [row for row, _ in pairs]
        self.numbers = [number for _, number in pairs]
        self.choice = ()
        self.begins = []

    def choose(self, choice):
        self.choice = choice
        self.begins = measured(self.row_list, choice)

    def label_sums(self):
        return {("name", row[1]): sum_at((self.p, self.begins[index]))
                for index, row in enumerate(self.row_list) if row[0] == "label"}

    def words_at(self, index, meanings):
        """The words of a row, all labels being put in."""
        if self.kind == "data" and self.row_list[index][0] == "even":
            return [(0, ())] * (self.begins[index + 1] - self.begins[index])
        return words_of_row(self.row_list[index], index, self.choice, self.begins, meanings)

    def words(self, meanings):
        return [word for index in range(len(self.row_list)) for word in self.words_at(index, meanings)]


def outs_of(rows):
    """The numbers of the open rows of a draft that lead out of it."""
    return Draft(rows).outs


def chosen_far(piece, far):
    """The choice of a piece; BadFar if its worth in far is none."""
    if piece.kind == "data":
        return ()
    if piece.p not in far:
        return outs_of(piece.row_list)
    try:
        Draft(piece.row_list).offsets(far[piece.p])
    except BadChoice:
        raise BadFar(piece.p) from None
    return tuple(sorted(list(far[piece.p])))


class Assembly:
    """A text whose pieces are laid word by word."""

    def __init__(self, text, far):
        self.named = NamedText(text)
        self.laid_parts = [LaidPiece(p, kind, self.named.draft_rows(number))
                       for number, (p, kind) in enumerate(self.named.parts)]
        self.choose({} if far is None else far)
        self.meanings = {("name", p): alone("piece", p) for p in self.named.kind_by_piece}
        for piece in self.laid_parts:
            self.meanings.update(piece.label_sums())
        self.check_reach()

    def choose(self, far):
        if not isinstance(far, dict):
            raise BadFar(None)
        pieces = {piece.p: piece for piece in self.laid_parts}
        for p in far:
            if not is_name(p) or p not in pieces or pieces[p].kind != "code":
                raise BadFar(p)
            chosen_far(pieces[p], far)
        for piece in self.laid_parts:
            piece.choose(chosen_far(piece, far))

    def rows(self):
        """The triples (item, piece, number of its row in the piece) of all rows that bring words, as they come."""
        found = []
        for piece in self.laid_parts:
            for index, number in enumerate(piece.numbers):
                if number is not None and brings_words(self.named.sequence[number]):
                    found.append((self.named.sequence[number], piece, index))
        return found

    def check_reach(self):
        for item, piece, index in self.rows():
            if item.called in NEAR or (item.called in OPEN_ROWS and index not in piece.choice):
                number, parts = piece.words_at(index, self.meanings)[0]
                if not parts and is_too_long(number // 2048):
                    raise TooFar(item.lines)

    def unit(self):
        told = {}
        for item in self.named.coming.told_items:
            told[item.label[1]] = address_in(self.meanings[("name", item.label[1])])
        return Unit([(piece.p, piece.kind, piece.words(self.meanings)) for piece in self.laid_parts], told)

    def entries(self):
        found = []
        for item, piece, index in self.rows():
            many = piece.begins[index + 1] - piece.begins[index]
            if many > 0:
                found.append((item.lines, piece.p, piece.begins[index], many))
        return found


def assembled(text, far=None):
    return Assembly(text, far).unit()


def listing(text, far=None):
    return Assembly(text, far).entries()


def line_of(text, p, k, far=None):
    address = read_address((p, k))
    for lines, piece, begin, many in Assembly(text, far).entries():
        if address is not None and piece == address[0] and begin <= address[1] < begin + many:
            return lines
    raise NoWord(p, k)


def draft_of(text, p):
    named = NamedText(text)
    names = [name for name, kind in named.parts if kind == "code"]
    if not is_name(p) or p not in names:
        raise NoPiece(p)
    number = named.parts.index((p, "code"))
    return Draft([row for row, _ in named.draft_rows(number)])
