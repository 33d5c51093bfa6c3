"""Lots, reaches and calls by chance, and layouts looked for a second way."""

import itertools

NAMES = ["a", "b", "c", "d", "e", "f", "g", "h"]


def random_lot(rng, many=None, longest=9):
    """Pieces in any order of their names."""
    many = rng.randint(0, 5) if many is None else many
    names = NAMES[:many]
    rng.shuffle(names)
    return {name: (rng.randint(1, longest), rng.choice([1, 1, 2, 4, 8])) for name in names}


def random_reaches(rng, lot, many, wide=12):
    found = []
    for _ in range(many if lot else 0):
        one, other = rng.choice(list(lot)), rng.choice(list(lot))
        low = rng.randint(-wide, wide)
        found.append((one, rng.randrange(lot[one][0]), other, rng.randrange(lot[other][0]), low,
                      low + rng.randint(0, 2 * wide)))
    return found


def naive_row(lot, order, begin):
    """The places of an order one behind the other, step by step, and the end."""
    places, spot = {}, begin
    for name in order:
        length, stride = lot[name]
        while spot % stride:
            spot += 1
        places[name] = spot
        spot += length
    return places, spot


def orders_of(lot):
    """All orders, the first one first."""
    return list(itertools.permutations(list(lot)))


def is_kept(places, reach):
    one, at, other, to, low, high = reach
    return low <= places[other] + to - (places[one] + at) <= high


def naive_layouts(lot, order, reaches, last):
    """All layouts in an order with any gaps that keep the reaches and end at last or ahead."""
    def further(done, spot):
        if len(done) == len(order):
            if all(is_kept(done, reach) for reach in reaches):
                yield dict(done)
            return
        name = order[len(done)]
        length, stride = lot[name]
        for place in range(spot, last - length + 1):
            if place % stride == 0:
                yield from further({**done, name: place}, place + length)
    return list(further({}, 0))


def choices(many):
    """All ascending tuples of numbers, in the order of choices."""
    return [some for size in range(many + 1) for some in itertools.combinations(range(many), size)]
