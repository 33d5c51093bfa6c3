"""Why somebody comes by a line: chains of names that are wanted and told."""

from loadanywhere.kinds import is_integer, is_name, is_row
from loadanywhere.linethings import Line, read_line


def begins(comer):
    """Whether one that came is a member that is a thing."""
    return comer.by is None


def tellers(comers):
    """The dict from names to those that came and tell them strongly."""
    found = {}
    for comer in comers:
        for name in comer.tells:
            found.setdefault(name, []).append(comer)
    return found


def chains(line):
    comers = Line(read_line(line)).comers
    by_names = tellers(comers)
    found = {comer.seat: [comer.seat] for comer in comers if begins(comer)}
    looked = [comer for comer in comers if begins(comer)]
    while looked:
        newer = []
        for comer in looked:
            for name in comer.wants:
                for other in by_names.get(name, []):
                    if other.seat not in found:
                        found[other.seat] = found[comer.seat] + [name, other.seat]
                        newer.append(other)
        looked = newer
    return {comer.seat: found[comer.seat] for comer in comers}


def read_seat(thing):
    """Any object as a seat; None if it is none."""
    if not is_row(thing) or len(thing) not in (2, 3) or not is_name(thing[-1]):
        return None
    if not all([is_integer(number) for number in thing[:-1]]):
        return None
    return tuple(thing)


def is_want_chain(line, thing):
    comers = {comer.seat: comer for comer in Line(read_line(line)).comers}
    if not is_row(thing) or len(thing) % 2 == 0:
        return False
    seats = [read_seat(seat) for seat in thing[::2]]
    if not all([seat in comers for seat in seats]) or not begins(comers[seats[0]]):
        return False
    for ahead, name, behind in zip(seats, thing[1::2], seats[1:]):
        if not is_name(name) or name not in comers[ahead].wants or name not in comers[behind].tells:
            return False
    return True


def left_in(members, way, stood):
    """The members of a library that came; way is what stands ahead of their names in their seats."""
    return tuple([member for member in members if (*way, member[0]) in stood])


def trimmed(line):
    things = read_line(line)
    stood = {seat: True for seat in Line(things).all_seats()}
    found = []
    for index, (kind, of) in enumerate(things):
        left = of
        if kind == "library":
            left = left_in(of, (index,), stood)
        if kind == "group":
            left = tuple([left_in(members, (index, number), stood) for number, members in enumerate(of)])
        found.append((kind, left))
    return found
