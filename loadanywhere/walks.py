"""Whether free runs get lost, where they talk, and whether two images do the same wherever they are laid."""

from loadanywhere.bases import base_of
from loadanywhere.beside import Beside, from_columns, spread, worth_by
from loadanywhere.courses import check_lost, courses_from, loss_of
from loadanywhere.errors import Lost, NoStand
from loadanywhere.stands import read_stand


def lost_row(image):
    alone = Beside([image])
    return loss_of(courses_from(alone, alone.first_ways()))


def talking_stands(image):
    check_lost([image])
    alone = Beside([image])
    courses = courses_from(alone, alone.first_ways())
    return [(courses.truths(node), node[0]) for node in courses.nodes()]


def tells_alike(beside, spans):
    """Whether at all nodes at which both tell they tell the same by all rows of the spans."""
    for node, span in spans.items():
        if beside.kinds(node)[0] == "tell":
            factors = beside.told_apart(node)
            if any([worth_by(factors, row) != 0 for row in span.base()]):
                return False
    return True


def are_alike_behind(beside, ways, rows):
    """Whether two runs that go on by ways, with all rows of the span of rows, have the same events."""
    if courses_from(beside, ways).is_parted:
        return False
    node = beside.node(ways)
    return tells_alike(beside, spread(beside, [(node, beside.carried(ways, row, 0)) for row in rows]))


def alike(one, other):
    check_lost([one, other])
    both = Beside([one, other])
    return are_alike_behind(both, both.first_ways(), both.first_rows())


def stand_of(side, thing):
    stand = read_stand(side.talks, thing)
    if stand is None:
        raise NoStand(thing)
    return stand


def alike_from(one, here, other, there, rows):
    both = Beside([one, other])
    node = (stand_of(both.sides[0], here), stand_of(both.sides[1], there))
    columns = both.columns(node)
    base = base_of(rows, len(columns))
    ways = [side.talks.onward(stand) for side, stand in zip(both.sides, node)]
    for number, image in enumerate([one, other]):
        row = loss_of(courses_from(Beside([image]), [ways[number]]))
        if row is not None:
            raise Lost(number + 1, row)
    return are_alike_behind(both, ways, [from_columns(row, columns) for row in base])
