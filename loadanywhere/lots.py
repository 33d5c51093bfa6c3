"""Lots: how long pieces are and how they have to be aligned; the layouts in which they lie at places."""

from loadanywhere.errors import BadBegin, BadLayout, BadLot, BadOrder, BadStride
from loadanywhere.kinds import is_integer, is_name, is_row, is_row_of


def is_from_zero(thing):
    return is_integer(thing) and thing >= 0


def is_stride(thing):
    """Whether any object is a power of two: it has one bit alone."""
    return is_integer(thing) and thing >= 1 and thing & (thing - 1) == 0


def lot_of(image, strides=None):
    pieces = image.pieces()
    given = {} if strides is None else strides
    if not isinstance(given, dict):
        raise BadStride(None)
    names = [p for p, _, _ in pieces]
    for p in given:
        if p not in names or not is_stride(given[p]):
            raise BadStride(p)
    return {p: (max(1, len(words)), given.get(p, 1)) for p, _, words in pieces}


def read_lot(lot):
    """The dict from names to pairs (length, alignment) that any object is."""
    if not isinstance(lot, dict):
        raise BadLot(None)
    found = {}
    for name in lot:
        pair = lot[name]
        if not is_name(name) or not is_row_of(pair, 2) or not is_integer(pair[0]) or not is_stride(pair[1]):
            raise BadLot(name)
        if pair[0] < 1:
            raise BadLot(name)
        found[name] = (pair[0], pair[1])
    return found


def read_order(lot, order):
    """The tuple of all names of a lot that any object is."""
    if not is_row(order):
        raise BadOrder(0)
    found = []
    for index, name in enumerate(order):
        if not is_name(name) or name not in lot or name in found:
            raise BadOrder(index)
        found.append(name)
    if len(found) < len(lot):
        raise BadOrder(len(found))
    return tuple(found)


def check_begin(begin):
    if not is_from_zero(begin):
        raise BadBegin(begin)


def least_place(begin, stride):
    """The least multiple of an alignment from begin on."""
    return -(-begin // stride) * stride


def end_behind(pair, begin):
    """Where a piece of this length and alignment ends that stands at its least place from begin on."""
    return least_place(begin, pair[1]) + pair[0]


def lies_in(lot, thing):
    """Whether any object is a layout of a lot that is read already."""
    if not isinstance(thing, dict) or len(thing) != len(lot):
        return False
    for name, (_, stride) in lot.items():
        if name not in thing or not is_from_zero(thing[name]) or thing[name] % stride != 0:
            return False
    stood = sorted(list(lot), key=lambda name: thing[name])
    return all([thing[one] + lot[one][0] <= thing[other] for one, other in zip(stood, stood[1:])])


def is_layout(lot, thing):
    return lies_in(read_lot(lot), thing)


def placed_in_row(lot, order, begin):
    """The layout in which the pieces of an order stand one behind the other from begin on."""
    places = {}
    end = begin
    for name in order:
        places[name] = least_place(end, lot[name][1])
        end = places[name] + lot[name][0]
    return {name: places[name] for name in lot}


def row_of(lot, order, begin=0):
    pieces = read_lot(lot)
    names = read_order(pieces, order)
    check_begin(begin)
    return placed_in_row(pieces, names, begin)


def check_layout(lot, layout):
    if not lies_in(lot, layout):
        raise BadLayout(layout)


def end_of(lot, layout):
    pieces = read_lot(lot)
    check_layout(pieces, layout)
    return max([layout[name] + pieces[name][0] for name in pieces], default=0)
