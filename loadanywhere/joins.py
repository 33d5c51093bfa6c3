"""Pieces of a unit merged to one, and a piece pulled apart."""

from loadanywhere.errors import NoPiece, NoWord, Taken, Torn, UnlikeKinds
from loadanywhere.kinds import is_name, is_row, read_address
from loadanywhere.pieces import check_piece, kinds_of
from loadanywhere.sums import address_in, sum_at
from loadanywhere.units import Unit, pieces_with


def read_some(some, kinds):
    """The list of unlike pieces of one kind that any object is."""
    if not is_row(some) or len(some) == 0:
        raise NoPiece(None)
    stood = {}
    for p in some:
        if not is_name(p) or p not in kinds or p in stood:
            raise NoPiece(p)
        stood[p] = True
    for p in some:
        if kinds[p] != kinds[some[0]]:
            raise UnlikeKinds(p)
    return list(some)


def offsets_in(words, some):
    """How many words stand ahead of each of some, one behind the other."""
    found = {}
    ahead = 0
    for p in some:
        found[p] = ahead
        ahead += len(words[p])
    return found


def merged(unit, some, p):
    kinds = kinds_of(unit.pieces())
    lot = read_some(some, kinds)
    if not is_name(p) or (p in kinds and p not in lot):
        raise Taken(p)
    offsets = offsets_in({q: words for q, _, words in unit.pieces()}, lot)
    pieces = pieces_with(unit.pieces(), {("piece", q): sum_at((p, offsets[q])) for q in lot})
    words = {q: those for q, _, those in pieces}
    one = (p, kinds[lot[0]], [word for q in lot for word in words[q]])
    first = [q for q, _, _ in pieces if q in offsets][0]
    parts = [one if piece[0] == first else piece for piece in pieces if piece[0] == first or piece[0] not in offsets]
    told = {}
    for name, (q, k) in unit.told().items():
        told[name] = (p, offsets[q] + k) if q in offsets else (q, k)
    return Unit(parts, told)


def check_torn(unit, p):
    """Torn for the first word that has the place of p but is no address in it."""
    for q, _, words in unit.pieces():
        for k, word in enumerate(words):
            has = ("piece", p) in [unknown for unknown, _ in word[1]]
            if has and address_in(word) is None:
                raise Torn(q, k)


def pulled_address(address, p, k, q):
    """Where an address stands when q has what p had from the offset k on."""
    if address[0] == p and address[1] >= k:
        return (q, address[1] - k)
    return address


def pulled_word(word, p, k, q):
    address = address_in(word)
    if address is None:
        return word
    return sum_at(pulled_address(address, p, k, q))


def pulled(unit, p, k, q):
    check_piece(unit.pieces(), p)
    lengths = {name: len(words) for name, _, words in unit.pieces()}
    address = read_address((p, k))
    if address is None or not 0 <= k < lengths[p]:
        raise NoWord(p, k)
    if not is_name(q) or q in lengths:
        raise Taken(q)
    check_torn(unit, p)
    parts = []
    for name, kind, words in unit.pieces():
        sums = [pulled_word(word, p, k, q) for word in words]
        if name == p:
            parts += [(p, kind, sums[:k]), (q, kind, sums[k:])]
        else:
            parts.append((name, kind, sums))
    told = {name: pulled_address(meant, p, k, q) for name, meant in unit.told().items()}
    return Unit(parts, told)
