"""What surely holds at a talking stand, and what of it is needed later."""

from math import lcm

from loadanywhere.bases import base_of
from loadanywhere.beside import SILENT, Beside, answers_to, from_columns, spread, worth_by
from loadanywhere.courses import check_lost
from loadanywhere.errors import BadField, BadVector, NoStand
from loadanywhere.freeruns import REGISTERS
from loadanywhere.kinds import is_integer, is_row_of
from loadanywhere.spans import Span, first_in, span_of
from loadanywhere.stands import read_talking
from loadanywhere.sums import one_form
from loadanywhere.talks import HANDED


class Sights:
    """All talking stands of an image, with the spans of the rows that come there."""

    def __init__(self, image):
        check_lost([image])
        self.runs = Beside([image])
        self.side = self.runs.sides[0]
        ways = self.runs.first_ways()
        first = self.runs.node(ways)
        self.spans = spread(self.runs, [(first, self.runs.carried(ways, row, 0)) for row in self.runs.first_rows()])

    def node(self, thing):
        """The node of the talking stand that any object is; NoStand if runs come to none such."""
        stand = read_talking(self.side.talks, thing)
        if stand is None or (stand,) not in self.spans:
            raise NoStand(thing)
        return (stand,)

    def told_base(self, node):
        return self.runs.told_base(node, self.spans[node])

    def columns(self, node):
        return self.runs.columns(node)


def span_at(image, stand):
    sights = Sights(image)
    return sights.told_base(sights.node(stand))


def factors_of(rows, many):
    """Rows of factors, one for each column in which no row of a base begins, with which each row adds up to 0."""
    begun = {first_in(row): row for row in rows}
    least = 1
    for first, row in begun.items():
        least = lcm(least, row[first])
    found = []
    for column in range(many):
        if column not in begun:
            factors = {first: -row[column] * (least // row[first]) for first, row in begun.items() if column in row}
            factors[column] = least
            found.append(factors)
    return found


def sure_sums(image, stand):
    sights = Sights(image)
    node = sights.node(stand)
    base = sights.told_base(node)
    many = len(sights.columns(node))
    rows = [from_columns(row, list(range(many))) for row in base]
    return base_of([[row.get(column, 0) for column in range(many)] for row in factors_of(rows, many)], many)


def surely(image, stand, factors):
    sights = Sights(image)
    node = sights.node(stand)
    columns = sights.columns(node)
    if not is_row_of(factors, len(columns)) or not all([is_integer(factor) for factor in factors]):
        raise BadVector(0)
    row = from_columns(factors, columns)
    return all([worth_by(row, other) == 0 for other in sights.spans[node].base()])


def sure_value(image, stand, x):
    sights = Sights(image)
    node = sights.node(stand)
    if not is_integer(x) or not 0 <= x < REGISTERS:
        raise BadField("x")
    if node[0] == SILENT:
        return None
    factors = sights.side.worth_of(node[0], x)
    names = {column: ("piece", p) for p, column in sights.side.talks.numbers.seats.items()}
    found = {}
    for row in sights.spans[node].base():
        column = first_in(row)
        worth = worth_by(factors, row)
        if column >= sights.runs.wide and worth != 0:
            return None
        # There are rows that begin with 1, and with each place: these tell the number and the multiples.
        if column < sights.runs.wide:
            found[column] = worth // row[column]
    return one_form(found[0], {names[column]: found[column] for column in names})


def with_handed(factors, way, seats):
    """The rows of factors ahead of a way by which what factors tell behind it is told, for 0 and for 1 handed in."""
    found = {}
    handed = 0
    own = {seat: column for column, seat in enumerate(seats)}
    for seat, factor in factors.items():
        parts = way.newer.get(own[seat], {own[seat]: 1})
        for column, multiple in parts.items():
            if column == HANDED:
                handed += factor * multiple
            else:
                found[seats[column]] = found.get(seats[column], 0) + factor * multiple
    found = {column: number for column, number in found.items() if number != 0}
    return (found, handed)


def needed_spans(sights):
    """The dict from nodes to the spans of all rows of multiples that are told behind them."""
    ahead = {}
    work = []
    for node in sights.spans:
        kind = sights.runs.kinds(node)[0]
        if kind == "tell":
            work.append((node, sights.side.told(node[0])))
        for answer in answers_to(kind):
            way = sights.side.way_behind(node[0], answer)
            if way.kind != "silent":
                ahead.setdefault((way.goal,), []).append((node, way))
    found = {node: Span() for node in sights.spans}
    while work:
        node, factors = work.pop()
        if found[node].put(factors):
            for other, way in ahead.get(node, []):
                factors_ahead, handed = with_handed(factors, way, sights.side.seats)
                work.append((other, factors_ahead))
                if handed != 0:
                    work.append((other, {0: 1}))
    return found


def needed_sums(image, stand):
    sights = Sights(image)
    node = sights.node(stand)
    return sights.runs.told_base(node, needed_spans(sights)[node])


def least_held(image, stand):
    sights = Sights(image)
    node = sights.node(stand)
    needed = needed_spans(sights)[node].base()
    seen = [[worth_by(factors, row) for factors in needed] for row in sights.spans[node].base()]
    return span_of([from_columns(row, list(range(len(needed)))) for row in seen]).rank()
