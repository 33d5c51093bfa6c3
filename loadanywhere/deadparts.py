"""Pieces to which nothing leads, and pieces that are alike."""

from loadanywhere.errors import NoName
from loadanywhere.kinds import is_name, is_row
from loadanywhere.pieces import check_piece, words_of
from loadanywhere.units import Unit, bound, pieces_with


def check_roots(unit, roots):
    if not is_row(roots):
        raise NoName(None)
    told = unit.told()
    for name in roots:
        if not is_name(name) or name not in told:
            raise NoName(name)


def leads_of(unit):
    """The dict from pieces to the pairs (address, piece to which its word leads, as it stands)."""
    told = unit.told()
    found = {p: [] for p, _, _ in unit.pieces()}
    for (p, k), word in words_of(unit.pieces()).items():
        for (kind, of), _ in word[1]:
            if kind == "piece":
                found[p].append(((p, k), of))
            elif of in told:
                found[p].append(((p, k), told[of][0]))
    return found


def ways_from(unit, roots):
    """The dict from all pieces that are reached to a shortest way of addresses of words by which they are."""
    told = unit.told()
    leads = leads_of(unit)
    found = {told[name][0]: [] for name in roots}
    looked = list(found)
    while looked:
        newer = []
        for p in looked:
            for address, q in leads[p]:
                if q not in found:
                    found[q] = found[p] + [address]
                    newer.append(q)
        looked = newer
    return found


def reached(unit, roots):
    check_roots(unit, roots)
    found = ways_from(unit, roots)
    return [p for p, _, _ in unit.pieces() if p in found]


def struck(unit, roots):
    names = reached(unit, roots)
    told = {name: address for name, address in unit.told().items() if address[0] in names}
    return Unit([piece for piece in unit.pieces() if piece[0] in names], told)


def way_to(unit, roots, p):
    check_roots(unit, roots)
    check_piece(unit.pieces(), p)
    return ways_from(unit, roots).get(p)


def seen_with(word, heaps):
    """A word if the places of the pieces of one heap count as one unknown, as a tuple."""
    multiples = {}
    for (kind, of), multiple in word[1]:
        unknown = (kind, of) if kind == "name" else ("heap", heaps[of])
        multiples[unknown] = multiples.get(unknown, 0) + multiple
    left = [unknown for unknown in multiples if multiples[unknown] != 0]
    return (word[0], tuple(sorted([(kind, str(of), multiples[(kind, of)]) for kind, of in left])))


def parted(pieces, heaps):
    """The dict from pieces to the numbers of their heaps in the round behind."""
    found = {}
    numbers = {}
    for p, _, words in pieces:
        seen = (heaps[p], tuple([seen_with(word, heaps) for word in words]))
        found[p] = numbers.setdefault(seen, len(numbers))
    return found


def last_heaps(unit):
    """The dict from pieces to the numbers of their heaps when nothing is parted any more."""
    pieces = bound(unit).pieces()
    heaps = {p: 0 if kind == "code" else number for number, (p, kind, _) in enumerate(pieces, start=1)}
    many = 0
    while many < len({number: True for number in heaps.values()}):
        many = len({number: True for number in heaps.values()})
        heaps = parted(pieces, heaps)
    return heaps


def heaps_in(unit):
    """The lists of the pieces of each heap, in order."""
    found = {}
    for p, number in last_heaps(unit).items():
        found.setdefault(number, []).append(p)
    return list(found.values())


def classes(unit):
    return [heap for heap in heaps_in(unit) if len(heap) > 1]


def folded(unit):
    firsts = {p: heap[0] for heap in heaps_in(unit) for p in heap}
    worths = {("piece", p): (0, ((("piece", first), 1),)) for p, first in firsts.items()}
    told = {name: (firsts[p], k) for name, (p, k) in unit.told().items()}
    return Unit(pieces_with([piece for piece in unit.pieces() if firsts[piece[0]] == piece[0]], worths), told)
