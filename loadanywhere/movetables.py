"""Where a run waits, how often the places are in what it holds there, and which pieces can be moved then."""

from loadanywhere.errors import NoPoint, NoWhere
from loadanywhere.flows import flow_of
from loadanywhere.freeruns import REGISTERS
from loadanywhere.freetold import led_by
from loadanywhere.kinds import is_integer, is_row_of, read_address
from loadanywhere.pieces import check_piece
from loadanywhere.talks import Talks


def wheres_of(image):
    """The registers, then the addresses of the data words."""
    found = [("register", n) for n in range(REGISTERS)]
    for p, kind, words in image.pieces():
        if kind == "data":
            found.extend([("word", p, k) for k in range(len(words))])
    return found


def names_of(image):
    return [p for p, _, _ in image.pieces()]


def points(image):
    found = {}
    for one in flow_of(Talks(image)).arrivals:
        if one.kind in ("take", "ask"):
            found[one.stand[0]] = True
    return list(found)


def multiples(image, answers):
    run = led_by(image, answers).free
    names = names_of(image)
    found = {}
    for where, value in zip(wheres_of(image), run.held):
        parts = {("piece", value[1]): 1} if value[0] == "at" else value[1][1]
        found[where] = tuple([(p, parts[("piece", p)]) for p in names if ("piece", p) in parts])
    return found


def arrivals_at(flow, at):
    """The arrivals of runs that wait at a point; NoPoint for any object that is none."""
    address = read_address(at)
    found = [one for one in flow.arrivals if one.kind in ("take", "ask") and one.stand[0] == address]
    if not found:
        raise NoPoint(at)
    return found


def same_or_none(numbers):
    """The number that all of some are; None if there are unlike ones."""
    if all([number == numbers[0] for number in numbers]):
        return numbers[0]
    return None


def sure_in(image, talks, arrivals):
    """The dict from all wheres to dicts from the pieces to the multiple that all arrivals have, or None."""
    names = names_of(image)
    found = {}
    for index, where in enumerate(wheres_of(image)):
        found[where] = {p: same_or_none([one.multiple(talks.numbers, index, p) for one in arrivals]) for p in names}
    return found


def sure_multiples(image, at):
    talks = Talks(image)
    return sure_in(image, talks, arrivals_at(flow_of(talks), at))


def movable(image, sure):
    """The pieces all whose multiples are sure."""
    return tuple([p for p in names_of(image) if None not in [here[p] for here in sure.values()]])


def can_be_moved(image, at):
    return movable(image, sure_multiples(image, at))


def unsure(image, at, p):
    sure = sure_multiples(image, at)
    check_piece(image.pieces(), p)
    return [where for where, here in sure.items() if here[p] is None]


def read_where(image, thing):
    """The index of the where that any object is; NoWhere if it is none."""
    where = ()
    if is_row_of(thing, 2) and is_integer(thing[1]):
        where = tuple(thing)
    if is_row_of(thing, 3) and read_address((thing[1], thing[2])) is not None:
        where = tuple(thing)
    wheres = wheres_of(image)
    if where not in wheres:
        raise NoWhere(thing)
    return wheres.index(where)


def unlike_runs(image, at, where, p):
    talks = Talks(image)
    flow = flow_of(talks)
    arrivals = arrivals_at(flow, at)
    index = read_where(image, where)
    check_piece(image.pieces(), p)
    first = arrivals[0]
    for other in arrivals:
        if other.multiple(talks.numbers, index, p) != first.multiple(talks.numbers, index, p):
            return (flow.trails.row_of_answers(first.trail), flow.trails.row_of_answers(other.trail))
    return None


def never_moved(image):
    talks = Talks(image)
    by_points = {}
    for one in flow_of(talks).arrivals:
        if one.kind in ("take", "ask"):
            by_points.setdefault(one.stand[0], []).append(one)
    moved = {}
    for arrivals in by_points.values():
        for p in movable(image, sure_in(image, talks, arrivals)):
            moved[p] = True
    return tuple([p for p in names_of(image) if p not in moved])


def flat_row(image, talks, one):
    """The multiples of all pieces at all wheres for an arrival, wheres in order."""
    names = names_of(image)
    return tuple([one.multiple(talks.numbers, where, p) for where in range(len(one.stand[1])) for p in names])


def move_table(image):
    talks = Talks(image)
    by_stands = {}
    for one in flow_of(talks).arrivals:
        if one.kind in ("take", "ask"):
            by_stands.setdefault(one.stand, []).append(flat_row(image, talks, one))
    found = []
    for stand, rows in by_stands.items():
        others = [tuple([number - other for number, other in zip(row, rows[0])]) for row in rows[1:]]
        found.append((stand, rows[0], tuple(others)))
    return found
