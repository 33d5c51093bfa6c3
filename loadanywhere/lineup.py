"""Who comes by a line of members, libraries and groups, whose the names are, and the unit of all."""

from loadanywhere.errors import SamePiece, Twice, Untold
from loadanywhere.linethings import Line, read_line
from loadanywhere.sums import sum_at
from loadanywhere.units import Unit, pieces_with


def came(line):
    return [(comer.seat, comer.by) for comer in Line(read_line(line)).comers]


def owners(comers):
    """The dict, ascending, from all names that are told to the one that came whose it is."""
    strong = {}
    weak = {}
    for comer in comers:
        for name in comer.tells:
            strong.setdefault(name, []).append(comer)
        for name in comer.content.told():
            weak.setdefault(name, comer)
    for name in sorted(list(strong)):
        if len(strong[name]) > 1:
            raise Twice(name, strong[name][0].seat, strong[name][1].seat)
    return {name: strong[name][0] if name in strong else weak[name] for name in sorted(list(weak))}


def whose(line):
    return {name: comer.seat for name, comer in owners(Line(read_line(line)).comers).items()}


def untold(line):
    return Line(read_line(line)).open_names()


def pieces_of_all(comers):
    """The pieces of all that came."""
    found = []
    stood = {}
    for comer in comers:
        for piece in comer.content.pieces():
            if piece[0] in stood:
                raise SamePiece(piece[0])
            stood[piece[0]] = True
            found.append(piece)
    return found


def linked(line):
    found = Line(read_line(line))
    told = {name: comer.content.told()[name] for name, comer in owners(found.comers).items()}
    pieces = pieces_of_all(found.comers)
    lacking = found.open_names()
    if lacking:
        raise Untold(lacking[0])
    worths = {("name", name): (0, ()) for comer in found.comers for name in comer.content.wanted()}
    worths.update({("name", name): sum_at(address) for name, address in told.items()})
    return Unit(pieces_with(pieces, worths), told)
