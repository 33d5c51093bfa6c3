"""Move tables of any kind: whether they are closed, and what they show."""

from loadanywhere.errors import BadTable, NoPoint
from loadanywhere.kinds import is_integer, is_row, is_row_of, read_address
from loadanywhere.movetables import names_of, points, same_or_none, wheres_of
from loadanywhere.spans import span_of, sparse
from loadanywhere.stands import read_stand
from loadanywhere.talks import Talks


class Entry:
    """A triple of a table: the stand, its row, and its rows."""

    def __init__(self, stand, row, others):
        self.stand = stand
        self.row = row
        self.others = others
        self.span = span_of([sparse(other) for other in others])


def is_integer_row(thing, many):
    return is_row_of(thing, many) and all([is_integer(number) for number in thing])


def keeps_addresses(names, marks, row, whole):
    """Whether a row has the multiples of addresses where the marks have some; none at all if it is no whole one."""
    many = len(names)
    for where, mark in enumerate(marks):
        if mark is not None:
            needed = [1 if whole and p == mark[0] else 0 for p in names]
            if list(row[where * many:(where + 1) * many]) != needed:
                return False
    return True


def read_entry(image, talks, thing):
    """Any object as a triple of a move table; None if it is none."""
    if not is_row_of(thing, 3) or not is_row(thing[2]):
        return None
    stand = read_stand(talks, thing[0])
    if stand is None or talks.program.steps[stand[0]] is None:
        return None
    if talks.program.steps[stand[0]].called not in ("take", "ask"):
        return None
    names = names_of(image)
    many = len(stand[1]) * len(names)
    if not all([is_integer_row(row, many) for row in [thing[1], *thing[2]]]):
        return None
    if not keeps_addresses(names, stand[1], thing[1], True):
        return None
    if not all([keeps_addresses(names, stand[1], row, False) for row in thing[2]]):
        return None
    return Entry(stand, tuple(thing[1]), [tuple(row) for row in thing[2]])


def read_table(image, talks, thing):
    """The dict from stands to the triples of any object; None if it has not the form of a table."""
    if not is_row(thing):
        return None
    found = {}
    for one in thing:
        entry = read_entry(image, talks, one)
        if entry is None or entry.stand in found:
            return None
        found[entry.stand] = entry
    return found


def piece_rows(talks, marks, row, whole):
    """The rows of the pieces, as flows have them, that a flat row tells; without their places if it is no whole one."""
    many = talks.wide - 1
    found = []
    for index in range(many):
        held = {index + 1: 1} if whole else {}
        for where, mark in enumerate(marks):
            if mark is None and row[where * many + index] != 0:
                held[talks.wide + where] = row[where * many + index]
        found.append(held)
    return found


def flat_of(talks, stand, rows, whole):
    """The contrary: the flat row, as a dict, at a stand."""
    many = talks.wide - 1
    found = {}
    for where, mark in enumerate(stand[1]):
        for index in range(many):
            number = rows[index].get(talks.wide + where, 0)
            if mark is not None:
                number = 1 if whole and talks.numbers.seats[mark[0]] == index + 1 else 0
            if number != 0:
                found[where * many + index] = number
    return found


def next_wait(talks, way, rows):
    """The way and the rows with which a run waits next; None for both if it waits no more."""
    rows = [talks.carried(way, row) for row in rows]
    stood = {}
    # A run that tells on and on comes back to a stand.
    while way.kind == "tell" and way.goal not in stood:
        stood[way.goal] = True
        way = talks.past(way.goal, None)
        rows = [talks.carried(way, row) for row in rows]
    if way.kind not in ("take", "ask"):
        return (None, None)
    return (way, rows)


def is_held_behind(talks, table, way, rows, whole):
    """Whether what comes of rows by a way is held where the run waits next, if it does."""
    way, rows = next_wait(talks, way, rows)
    if way is None:
        return True
    if way.goal not in table:
        return False
    entry = table[way.goal]
    row = flat_of(talks, way.goal, rows, whole)
    if whole:
        row = sparse([row.get(column, 0) - number for column, number in enumerate(entry.row)])
    return not entry.span.rest(row)


def is_closed(talks, table):
    if not is_held_behind(talks, table, talks.onward(talks.start()), talks.start_rows()[1:], True):
        return False
    for stand, entry in table.items():
        answers = (False, True) if talks.program.steps[stand[0]].called == "ask" else (None,)
        for way in [talks.past(stand, answer) for answer in answers]:
            if not is_held_behind(talks, table, way, piece_rows(talks, stand[1], entry.row, True), True):
                return False
            for other in entry.others:
                if not is_held_behind(talks, table, way, piece_rows(talks, stand[1], other, False), False):
                    return False
    return True


def closed_table(image, thing):
    """The dict from stands to the triples of a closed table; None for any object that is none."""
    talks = Talks(image)
    table = read_table(image, talks, thing)
    if table is None or not is_closed(talks, table):
        return None
    return table


def is_move_table(image, thing):
    return closed_table(image, thing) is not None


def shown_by(entry, column):
    """The number that all rows held by a triple have in a column; None if there are unlike ones."""
    if any([other[column] != 0 for other in entry.others]):
        return None
    return entry.row[column]


def sure_by(image, table, at):
    closed = closed_table(image, table)
    if closed is None:
        raise BadTable()
    address = read_address(at)
    if address not in points(image):
        raise NoPoint(at)
    entries = [entry for stand, entry in closed.items() if stand[0] == address]
    names = names_of(image)
    found = {}
    for where, told in enumerate(wheres_of(image)):
        columns = [where * len(names) + index for index in range(len(names))]
        found[told] = {p: same_or_none([shown_by(entry, column) for entry in entries])
                       for p, column in zip(names, columns)}
    return found
