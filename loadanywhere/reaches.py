"""Pieces whose words have to lie in reach of each other."""

from loadanywhere.errors import BadLast, BadReach, HasStride
from loadanywhere.kinds import is_integer, is_name, is_row, is_row_of
from loadanywhere.lots import check_layout, is_from_zero, least_place, read_lot, read_order


def is_reach(lot, thing):
    if not is_row_of(thing, 6):
        return False
    one, at, other, to, low, high = thing
    if not is_name(one) or one not in lot or not is_name(other) or other not in lot:
        return False
    if not all([is_integer(number) for number in (at, to, low, high)]):
        return False
    return 0 <= at < lot[one][0] and 0 <= to < lot[other][0] and low <= high


def read_reaches(lot, reaches):
    """The list of the reaches that any object is."""
    if not is_row(reaches):
        raise BadReach(0)
    for index, thing in enumerate(reaches):
        if not is_reach(lot, thing):
            raise BadReach(index)
    return [tuple(thing) for thing in reaches]


def in_reach(lot, layout, reaches):
    pieces = read_lot(lot)
    check_layout(pieces, layout)
    found = []
    for index, (one, at, other, to, low, high) in enumerate(read_reaches(pieces, reaches)):
        if not low <= layout[other] + to - (layout[one] + at) <= high:
            found.append(index)
    return found


def demands_of(lot, order, reaches):
    """The dict from pushes (name, number) to pairs (other, more): a place is at least that of other and more."""
    found = {}
    for ahead, name in zip(order, order[1:]):
        found[(name, -1)] = (ahead, lot[ahead][0])
    for index, (one, at, other, to, low, high) in enumerate(reaches):
        if one == other:
            found[(one, index)] = (one, max(low + at - to, to - at - high))
        else:
            found[(other, index)] = (one, low + at - to)
            found[(one, index)] = (other, to - at - high)
    return found


class Rise:
    """What is known of the places of pieces, raised by pushes until all demands are kept or one leads beyond last."""

    def __init__(self, lot, demands, last, known):
        self.lot = lot
        self.demands = demands
        self.last = last
        self.known = {name: known.get(name, 0) for name in lot}
        self.pushes = []
        self.is_beyond = any([self.leads_beyond(name) for name in lot])

    def leads_beyond(self, name):
        return self.known[name] + self.lot[name][0] > self.last

    def push(self, name, number):
        """Raises what is known of a place by a demand; tells whether it does."""
        other, more = self.demands[(name, number)]
        place = least_place(self.known[other] + more, self.lot[name][1])
        if place <= self.known[name]:
            return False
        self.known[name] = place
        self.pushes.append((name, number))
        self.is_beyond = self.leads_beyond(name)
        return True

    def sweep(self):
        """Looks at each demand once; tells whether one of them raised something."""
        has_risen = False
        for name, number in self.demands:
            if not self.is_beyond and self.push(name, number):
                has_risen = True
        return has_risen

    def go(self):
        while not self.is_beyond and self.sweep():
            pass


def risen(lot, order, reaches, last):
    rise = Rise(lot, demands_of(lot, order, reaches), last, {})
    rise.go()
    return rise


class Called:
    """What is told of pieces in an order: all that these functions are passed, looked at in turn."""

    def __init__(self, lot, order, reaches, last):
        self.lot = read_lot(lot)
        self.order = read_order(self.lot, order)
        self.reaches = read_reaches(self.lot, reaches)
        self.last = last
        check_last(last)


def check_last(last):
    if not is_from_zero(last):
        raise BadLast(last)


def least_places(lot, order, reaches, last):
    called = Called(lot, order, reaches, last)
    rise = risen(called.lot, called.order, called.reaches, last)
    return None if rise.is_beyond else dict(rise.known)


def climb(lot, order, reaches, last):
    called = Called(lot, order, reaches, last)
    rise = risen(called.lot, called.order, called.reaches, last)
    return list(rise.pushes) if rise.is_beyond else None


def is_push(demands, thing):
    return (is_row_of(thing, 2) and is_name(thing[0]) and is_integer(thing[1])
            and (thing[0], thing[1]) in demands)


def shows_climb(lot, order, reaches, last, thing):
    called = Called(lot, order, reaches, last)
    if not is_row(thing):
        return False
    rise = Rise(called.lot, demands_of(called.lot, called.order, called.reaches), last, {})
    for one in thing:
        if rise.is_beyond or not is_push(rise.demands, one) or not rise.push(one[0], one[1]):
            return False
    return rise.is_beyond


def longer_walks(walks, demands):
    """The dict from pairs (first, last) to the heaviest walk, (weight, pushes), by one demand more."""
    found = {}
    for (first, other), (weight, pushes) in walks.items():
        for (name, number), (source, more) in demands.items():
            if source == other and ((first, name) not in found or found[(first, name)][0] < weight + more):
                found[(first, name)] = (weight + more, pushes + [(name, number)])
    return found


def ring_in(lot, demands):
    """A shortest ring of demands whose sum is above 0, alignments aside; None if there is none."""
    walks = {(name, name): (0, []) for name in lot}
    for _ in range(len(lot)):
        walks = longer_walks(walks, demands)
        for name in lot:
            if (name, name) in walks and walks[(name, name)][0] > 0:
                return walks[(name, name)][1]
    return None


def barring_ring(lot, order, reaches):
    pieces = read_lot(lot)
    names = read_order(pieces, order)
    kept = read_reaches(pieces, reaches)
    for name, (_, stride) in pieces.items():
        if stride != 1:
            raise HasStride(name)
    return ring_in(pieces, demands_of(pieces, names, kept))


def rises_for_ever(lot, demands):
    """Whether demands raise without an end, alignments aside: then so they do with them."""
    known = {name: 0 for name in lot}
    for _ in range(len(lot) + 1):
        has_risen = False
        for (name, _), (other, more) in demands.items():
            if known[other] + more > known[name]:
                known[name] = known[other] + more
                has_risen = True
        if not has_risen:
            return False
    return True


def longer_orders(lot, reaches, last, orders):
    """The dict, in order, from orders of one piece more to their least places, as far as there are such."""
    found = {}
    for order, known in orders.items():
        for name in lot:
            if name not in order:
                some = {one: lot[one] for one in [*order, name]}
                kept = [reach for reach in reaches if reach[0] in some and reach[2] in some]
                demands = demands_of(some, list(some), kept)
                rise = Rise(some, demands, last, known)
                if not rise.is_beyond and not rises_for_ever(some, demands):
                    rise.go()
                    if not rise.is_beyond:
                        found[tuple(list(some))] = rise.known
    return found


def orders_in_reach(lot, reaches, last):
    pieces = read_lot(lot)
    kept = read_reaches(pieces, reaches)
    check_last(last)
    orders = {(): {}}
    for _ in pieces:
        # An order in which the first pieces have no places has none itself.
        orders = longer_orders(pieces, kept, last, orders)
    return list(orders)
