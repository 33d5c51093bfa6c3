"""Ascending offsets, packed into stretches."""

from loadanywhere.errors import BadOffset, BadStretch
from loadanywhere.kinds import is_integer, is_row, is_row_of
from loadanywhere.relocating import relocations


def check_offsets(offsets):
    if not is_row(offsets):
        raise BadOffset(0)
    ahead = -1
    for index, offset in enumerate(offsets):
        if not is_integer(offset) or offset <= ahead:
            raise BadOffset(index)
        ahead = offset


def packed(offsets):
    """What is left of a stretch is one: so the longest one at each place gives the fewest in all."""
    check_offsets(offsets)
    found = []
    for offset in offsets:
        first, step, many = found[-1] if found else (0, 0, 0)
        if many == 1:
            found[-1] = (first, offset - first, 2)
        elif many > 1 and offset == first + step * many:
            found[-1] = (first, step, many + 1)
        else:
            found.append((offset, 1, 1))
    return found


def is_stretch(thing):
    if not is_row_of(thing, 3) or not all([is_integer(number) for number in thing]):
        return False
    first, step, many = thing
    return first >= 0 and step >= 1 and many >= 1 and (many > 1 or step == 1)


def unpacked(stretches):
    if not is_row(stretches):
        raise BadStretch(0)
    ahead = -1
    for index, thing in enumerate(stretches):
        if not is_stretch(thing) or thing[0] <= ahead:
            raise BadStretch(index)
        ahead = thing[0] + thing[1] * (thing[2] - 1)
    return [first + step * k for first, step, many in stretches for k in range(many)]


def packed_relocations(unit):
    found = {}
    for p, k, unknown, multiple in relocations(unit):
        found.setdefault((p, unknown, multiple), []).append(k)
    return {key: packed(offsets) for key, offsets in found.items()}
