"""Units: what stands between text and image, with names that are told and names that are wanted."""

from loadanywhere.errors import (
    BadTold, BadWord, BadWorths, NoName, NoPiece, SameName, SamePiece, Taken, Unbound,
)
from loadanywhere.images import Image
from loadanywhere.kinds import is_name, read_address
from loadanywhere.pieces import kinds_of, read_pieces, word_at, words_of
from loadanywhere.sums import read_sum, sum_at, with_worths


def read_told(told, sums):
    """The dict from names to addresses of words that told is; None stands for an empty one."""
    if told is None:
        return {}
    if not isinstance(told, dict):
        raise BadTold(None)
    found = {}
    for name in told:
        address = read_address(told[name])
        if not is_name(name) or address is None or address not in sums:
            raise BadTold(name)
        found[name] = address
    return found


def are_of(one, pieces):
    """Whether a sum has no unknowns but names and places of these pieces."""
    return all([kind == "name" or (kind == "piece" and of in pieces) for (kind, of), _ in one[1]])


def wanted_in(sums, told):
    """The ascending list of the names in words that are not told."""
    found = {}
    for word in sums.values():
        for (kind, of), _ in word[1]:
            if kind == "name" and of not in told:
                found[of] = True
    return sorted(list(found))


class Unit:
    """Pieces whose words may have names in them, and the names that it tells; nothing of it changes."""

    def __init__(self, pieces, told=None):
        self.parts = tuple(read_pieces(pieces))
        self.sums = words_of(self.parts)
        self.meanings = read_told(told, self.sums)
        kinds = kinds_of(self.parts)
        for p, k in self.sums:
            if not are_of(self.sums[(p, k)], kinds):
                raise BadWord(p, k)
        self.lacking = tuple(wanted_in(self.sums, self.meanings))

    def pieces(self):
        return list(self.parts)

    def told(self):
        return dict(self.meanings)

    def wanted(self):
        return list(self.lacking)

    def word(self, p, k):
        return word_at(self.sums, p, k)

    def __len__(self):
        return len(self.sums)

    def __eq__(self, other):
        return isinstance(other, Unit) and self.parts == other.parts and self.meanings == other.meanings


def pieces_with(pieces, worths):
    """The pieces with sums put in for unknowns in all words."""
    return [(p, kind, [with_worths(word, worths) for word in words]) for p, kind, words in pieces]


def bound(unit):
    told = unit.told()
    worths = {("name", name): sum_at(address) for name, address in told.items()}
    return Unit(pieces_with(unit.pieces(), worths), told)


def together(one, other):
    pieces = one.pieces()
    told = one.told()
    stood = kinds_of(pieces)
    for p, _, _ in other.pieces():
        if p in stood:
            raise SamePiece(p)
    for name, address in other.told().items():
        if name in told:
            raise SameName(name)
        told[name] = address
    return Unit(pieces + other.pieces(), told)


def with_names(unit, worths):
    if not isinstance(worths, dict):
        raise BadWorths(None)
    told = unit.told()
    kinds = kinds_of(unit.pieces())
    found = {}
    for name in worths:
        worth = read_sum(worths[name])
        if not is_name(name) or name in told or worth is None or not are_of(worth, kinds):
            raise BadWorths(name)
        found[("name", name)] = worth
    return Unit(pieces_with(unit.pieces(), found), told)


def check_new(elder, renaming):
    """Taken for the first new name that is none, or that two of the elder ones would have."""
    newer = [renaming.get(name, name) for name in elder]
    for name in renaming.values():
        if not is_name(name) or len([other for other in newer if other == name]) > 1:
            raise Taken(name)


def check_renaming(unit, pieces, names, called):
    """The errors of renamed, for two dicts; called are the names that the unit tells or wants."""
    kinds = kinds_of(unit.pieces())
    if not isinstance(pieces, dict):
        raise NoPiece(None)
    for p in pieces:
        if p not in kinds:
            raise NoPiece(p)
    if not isinstance(names, dict):
        raise NoName(None)
    for name in names:
        if name not in called:
            raise NoName(name)
    check_new(kinds, pieces)
    check_new(called, names)


def renamed(unit, pieces=None, names=None):
    newer_pieces = {} if pieces is None else pieces
    newer_names = {} if names is None else names
    told = unit.told()
    check_renaming(unit, newer_pieces, newer_names, list(told) + unit.wanted())
    worths = {("piece", p): (0, ((("piece", q), 1),)) for p, q in newer_pieces.items()}
    for name, other in newer_names.items():
        worths[("name", name)] = (0, ((("name", other), 1),))
    meanings = {}
    for name, (p, k) in told.items():
        meanings[newer_names.get(name, name)] = (newer_pieces.get(p, p), k)
    parts = [(newer_pieces.get(p, p), kind, words) for p, kind, words in pieces_with(unit.pieces(), worths)]
    return Unit(parts, meanings)


def image_of(unit, name):
    told = unit.told()
    if not is_name(name) or name not in told:
        raise NoName(name)
    wanted = unit.wanted()
    if wanted:
        raise Unbound(wanted[0])
    return Image(bound(unit).pieces(), told[name])
