"""Words told back, as sums of places, from what stood at several placings."""

from loadanywhere.errors import BadDump, BadPieces, BadPlacing, Gap, NoSum, NoWord, Open
from loadanywhere.kinds import is_integer, is_name, is_row, is_row_of, read_address
from loadanywhere.solving import Solver
from loadanywhere.spans import span_of, sparse
from loadanywhere.sums import one_form


def check_parts(pieces):
    if not is_row(pieces) or len(pieces) == 0:
        raise BadPieces(0)
    stood = {}
    for index, p in enumerate(pieces):
        if not is_name(p) or p in stood:
            raise BadPieces(index)
        stood[p] = True


def is_placing_of(thing, names):
    """Whether any object is a dict from just these names to integers."""
    if not isinstance(thing, dict) or len(thing) != len(names):
        return False
    return all([is_integer(thing.get(p)) for p in names])


def has_addresses(words, parts):
    """Whether any object is a dict from addresses of these pieces to integers."""
    if not isinstance(words, dict) or not all([is_integer(worth) for worth in words.values()]):
        return False
    addresses = [read_address(key) for key in words]
    return all([address is not None and address[0] in parts for address in addresses])


def check_dumps(rows, parts):
    if not is_row(rows) or len(rows) == 0:
        raise BadDump(0)
    for index, thing in enumerate(rows):
        if not is_row_of(thing, 2) or not is_placing_of(thing[0], parts) or not has_addresses(thing[1], parts):
            raise BadDump(index)
        first = rows[0][1]
        if len(thing[1]) != len(first) or not all([address in first for address in thing[1]]):
            raise BadDump(index)


class Dumps:
    """What stood at the same addresses, at one or more placings of the same pieces."""

    def __init__(self, pieces, rows):
        check_parts(pieces)
        parts = tuple(pieces)
        check_dumps(rows, parts)
        self.parts = parts
        order = {p: index for index, p in enumerate(parts)}
        self.spots = tuple(sorted(list(rows[0][1]), key=lambda address: (order[address[0]], address[1])))
        self.stood = [({p: places[p] for p in parts}, {spot: words[spot] for spot in self.spots})
                      for places, words in rows]

    def rows(self):
        return [(dict(places), {spot: words[spot] for spot in self.spots}) for places, words in self.stood]

    def addresses(self):
        return list(self.spots)

    def __eq__(self, other):
        return isinstance(other, Dumps) and self.parts == other.parts and self.stood == other.stood


def solver_of(rows):
    """The solver of placings: the number of a sum, then the multiples of the pieces, come to what stood."""
    return Solver([[1] + list(places.values()) for places in rows], len(rows[0]) + 1)


def dumps_solver(dumps):
    return solver_of([places for places, _ in dumps.stood])


def fitting_row(dumps, solver, address):
    """The number and multiples of a sum that fits at an address, or None."""
    return solver.solved([words[address] for _, words in dumps.stood])


def sure_row(dumps, p, k):
    """The row of a sum that fits at (p, k), and the solver by which it was found."""
    address = read_address((p, k))
    if address is None or address not in dumps.addresses():
        raise NoWord(p, k)
    solver = dumps_solver(dumps)
    row = fitting_row(dumps, solver, address)
    if row is None:
        raise NoSum(p, k)
    return (row, solver)


def sum_of_row(parts, row):
    return one_form(row[0], {("piece", p): multiple for p, multiple in zip(parts, row[1:])})


def only_sum(dumps, p, k):
    row, solver = sure_row(dumps, p, k)
    if solver.kernel:
        raise Open(p, k)
    return sum_of_row(dumps.parts, row)


def known_at(dumps, p, k):
    row, solver = sure_row(dumps, p, k)
    known = [number if solver.is_sure(column) else None for column, number in enumerate(row)]
    return (known[0], {q: multiple for q, multiple in zip(dumps.parts, known[1:])})


def read_placings(places):
    """The list of placings, each in the order of the first one, that any object is."""
    if not is_row(places) or len(places) == 0:
        raise BadPlacing(0)
    names = list(places[0]) if isinstance(places[0], dict) else []
    if len(names) == 0 or not all([is_name(name) for name in names]):
        raise BadPlacing(0)
    for index, thing in enumerate(places):
        if not is_placing_of(thing, names):
            raise BadPlacing(index)
    return [{p: placing[p] for p in names} for placing in places]


def settles(places):
    return not solver_of(read_placings(places)).kernel


def sure_parts(places):
    rows = read_placings(places)
    solver = solver_of(rows)
    parts = [0] + [("piece", p) for p in rows[0]]
    return [part for column, part in enumerate(parts) if solver.is_sure(column)]


def more_dumps(places):
    return len(solver_of(read_placings(places)).kernel)


def least_settling(places):
    rows = [sparse([1] + list(placing.values())) for placing in read_placings(places)]
    rank = span_of(rows).rank()
    lots = [()]
    for _ in range(rank):
        lots = [longer for lot in lots for longer in longer_lots(rows, lot, rank)]
    return lots


def longer_lots(rows, lot, rank):
    """The lots with one further index from which rows behind still lead to the rank of all."""
    held = [rows[index] for index in lot]
    begin = lot[-1] + 1 if lot else 0
    found = []
    for index in range(begin, len(rows)):
        is_apart = span_of(held + [rows[index]]).rank() == len(lot) + 1
        if is_apart and span_of(held + rows[index:]).rank() == rank:
            found.append((*lot, index))
    return found


def check_gaps(dumps):
    for p in dumps.parts:
        offsets = [k for q, k in dumps.addresses() if q == p]
        if offsets != list(range(len(offsets))):
            raise Gap(p)


def told_back(dumps):
    check_gaps(dumps)
    solver = dumps_solver(dumps)
    found = {}
    for p, k in dumps.addresses():
        found[(p, k)] = fitting_row(dumps, solver, (p, k))
        if found[(p, k)] is None:
            raise NoSum(p, k)
    for p, k in dumps.addresses():
        if solver.kernel:
            raise Open(p, k)
    sums = {address: sum_of_row(dumps.parts, row) for address, row in found.items()}
    return [(p, "data", tuple([sums[spot] for spot in dumps.addresses() if spot[0] == p])) for p in dumps.parts]
