"""Pieces laid in holes."""

from loadanywhere.errors import BadHoles
from loadanywhere.kinds import is_integer, is_row, is_row_of
from loadanywhere.lots import is_from_zero, placed_in_row, read_lot
from loadanywhere.rowends import least_ends, shortest_row


def read_holes(holes):
    """The list of the holes that any object is."""
    if not is_row(holes):
        raise BadHoles(0)
    found = []
    least = 0
    for index, hole in enumerate(holes):
        if not is_row_of(hole, 2) or not is_from_zero(hole[0]) or not is_integer(hole[1]):
            raise BadHoles(index)
        if hole[0] < least or hole[1] <= hole[0]:
            raise BadHoles(index)
        least = hole[1]
        found.append((hole[0], hole[1]))
    return found


def bits_of(some):
    """A lot of numbers as one number, so that two are soon compared."""
    return sum([1 << index for index in some])


def numbers_in(bits, many):
    return tuple([index for index in range(many) if bits >> index & 1])


def fillings(pairs, holes):
    """For each number of holes, the dict from the lots that can be laid in the first ones to what lies in the last."""
    found = [{0: 0}]
    for begin, end in holes:
        fitting = [bits_of(some) for some, least in least_ends(pairs, begin).items() if least <= end]
        newer = {}
        for elder in found[-1]:
            for bits in fitting:
                if elder & bits == 0 and elder | bits not in newer:
                    newer[elder | bits] = bits
        found.append(newer)
    return found


def laid_in(lot, holes):
    pieces = read_lot(lot)
    gaps = read_holes(holes)
    names = list(pieces)
    pairs = list(pieces.values())
    levels = fillings(pairs, gaps)
    left = bits_of(list(range(len(names))))
    if left not in levels[-1]:
        return None
    places = {}
    for level, (begin, _) in reversed(list(zip(levels[1:], gaps))):
        here = numbers_in(level[left], len(names))
        order, _ = shortest_row([pairs[index] for index in here], begin)
        row = [names[here[index]] for index in order]
        places.update(placed_in_row({name: pieces[name] for name in row}, row, begin))
        left -= level[left]
    return {name: places[name] for name in names}


def is_full(level, bits, many):
    """Whether no piece can be added to a lot."""
    return not any([bits >> index & 1 == 0 and bits | 1 << index in level for index in range(many)])


def filled(lot, holes):
    pairs = list(read_lot(lot).values())
    gaps = read_holes(holes)
    many = len(pairs)
    found = []
    for level in fillings(pairs, gaps):
        full = [numbers_in(bits, many) for bits in level if is_full(level, bits, many)]
        found.append(tuple(sorted(full, key=lambda some: (len(some), some))))
    return found
