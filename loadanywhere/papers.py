"""Papers of any kind: whether they are such, turned, and joined over an image in the middle."""

from loadanywhere.beside import (
    Beside, answers_to, at_columns, from_columns, is_lost_in, numbers_to, worth_by,
)
from loadanywhere.bases import base_of
from loadanywhere.courses import check_lost
from loadanywhere.errors import NoPaper
from loadanywhere.kinds import is_integer, is_row, is_row_of
from loadanywhere.spans import Span, first_in, span_of
from loadanywhere.stands import read_talking


def read_node(beside, thing):
    """Any object as the talking stands of both, of its first two members; None if they are none."""
    stands = [read_talking(side.talks, one) for side, one in zip(beside.sides, thing)]
    return None if None in stands else tuple(stands)


def read_paper(beside, thing):
    """The dict from nodes to the rows of any object that has the form of a paper; None if it has not."""
    if not is_row(thing):
        return None
    found = {}
    for one in thing:
        if not is_row_of(one, 3) or not is_row(one[2]):
            return None
        node = read_node(beside, one)
        if node is None or node in found:
            return None
        columns = beside.columns(node)
        for row in one[2]:
            if not is_row_of(row, len(columns)) or not all([is_integer(number) for number in row]):
                return None
        found[node] = [from_columns(row, columns) for row in one[2]]
    return found


def is_in(spans, node, row):
    return node in spans and not spans[node].rest(row)


def keeps_rules(beside, spans, node, rows):
    """Whether the runs of a node do not part, and all that comes of its rows is in the spans behind."""
    kinds = beside.kinds(node)
    if kinds[0] != kinds[1]:
        return False
    if kinds[0] == "tell" and any([worth_by(beside.told_apart(node), row) != 0 for row in rows]):
        return False
    for answer in answers_to(kinds[0]):
        ways = beside.ways_behind(node, answer)
        if is_lost_in(ways) or beside.node(ways) not in spans:
            return False
        behind = [beside.carried(ways, row, handed) for row in rows for handed in numbers_to(kinds[0])]
        if not all([is_in(spans, beside.node(ways), row) for row in behind]):
            return False
    return True


def rows_of_paper(beside, thing):
    """The dict from nodes to rows of a paper; None for any object that is none."""
    found = read_paper(beside, thing)
    if found is None:
        return None
    spans = {node: span_of(rows) for node, rows in found.items()}
    ways = beside.first_ways()
    first = [beside.carried(ways, row, 0) for row in beside.first_rows()]
    if not all([is_in(spans, beside.node(ways), row) for row in first]):
        return None
    if not all([keeps_rules(beside, spans, node, rows) for node, rows in found.items()]):
        return None
    return found


def is_paper(one, other, thing):
    check_lost([one, other])
    return rows_of_paper(Beside([one, other]), thing) is not None


def own_columns(side, stand, begin):
    """The columns of the places of a side, which begin at one of them, and those of the numbers that it holds."""
    return (list(range(begin, begin + side.talks.wide - 1)), side.columns_at(stand))


def paper_turned(one, other, thing):
    check_lost([one, other])
    both = Beside([one, other])
    rows = rows_of_paper(both, thing)
    if rows is None:
        raise NoPaper(1)
    found = []
    for node in rows:
        places, held = own_columns(both.sides[0], node[0], 1)
        other_places, other_held = own_columns(both.sides[1], node[1], both.sides[0].talks.wide)
        columns = [0] + other_places + places + other_held + held
        base = base_of([at_columns(row, columns) for row in rows[node]], len(columns))
        found.append((node[1], node[0], base))
    return found


def seated(row, columns, begin, many):
    """So many times the numbers of a row in these columns, one behind the other from a column on."""
    return {begin + index: many * row[column] for index, column in enumerate(columns) if column in row}


def joined_rows(left, right, first, second, left_rows, right_rows):
    """What rows of a node of the left and of one of the right come to where they agree in the middle.

    What they have of the middle stands ahead, and that of the right counts against that of the left: so rows of the
    span that have nothing there are sums of both that agree in it.
    """
    places, held = own_columns(left.sides[0], first[0], 1)
    mid_places, mid_held = own_columns(left.sides[1], first[1], left.sides[0].talks.wide)
    also_places, also_held = own_columns(right.sides[0], second[0], 1)
    other_places, other_held = own_columns(right.sides[1], second[1], right.sides[0].talks.wide)
    begin = 1 + len(mid_places) + len(mid_held)
    other_begin = begin + 1 + len(places)
    held_begin = other_begin + len(other_places)
    span = Span()
    for row in left_rows:
        found = seated(row, [0] + mid_places + mid_held, 0, 1)
        found.update(seated(row, [0] + places, begin, 1))
        found.update(seated(row, held, held_begin, 1))
        span.put(found)
    for row in right_rows:
        found = seated(row, [0] + also_places + also_held, 0, -1)
        found.update(seated(row, other_places, other_begin, 1))
        found.update(seated(row, other_held, held_begin + len(held), 1))
        span.put(found)
    outer = list(range(begin, held_begin + len(held) + len(other_held)))
    return [at_columns(row, outer) for row in span.base() if first_in(row) >= begin]


def papers_joined(one, middle, other, first, second):
    check_lost([one, middle, other])
    left = Beside([one, middle])
    left_rows = rows_of_paper(left, first)
    if left_rows is None:
        raise NoPaper(1)
    right = Beside([middle, other])
    right_rows = rows_of_paper(right, second)
    if right_rows is None:
        raise NoPaper(2)
    rows = {}
    for node in left_rows:
        for behind in right_rows:
            if node[1] == behind[0]:
                joined = joined_rows(left, right, node, behind, left_rows[node], right_rows[behind])
                rows.setdefault((node[0], behind[1]), []).extend(joined)
    both = Beside([one, other])
    return [(node[0], node[1], base_of(rows[node], len(both.columns(node)))) for node in rows]
