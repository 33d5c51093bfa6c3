"""Runs of one image, or of two side by side, from talking stand to talking stand.

A NODE is the tuple of their talking stands. A row of a node has 1, the places of the pieces of each, then the numbers
that each holds: a dict from columns to numbers, with the same columns at all nodes.
"""

from loadanywhere.spans import Span, with_row
from loadanywhere.talks import Talks, held_behind

# The stand from which no event comes any more.
SILENT = ("silent",)


class Side:
    """One of the images, with the columns that its own ones are in the rows of all."""

    def __init__(self, talks, place_shift, held_shift):
        self.talks = talks
        self.seats = [0]
        for column in talks.own_columns[1:]:
            self.seats.append(column + (place_shift if column < talks.wide else held_shift))

    def kind_of(self, stand):
        if stand == SILENT:
            return "silent"
        return self.talks.program.steps[stand[0]].called

    def way_behind(self, stand, answer):
        return self.talks.past(stand, answer)

    def told(self, stand):
        """The row of multiples by which a tell at a stand tells a number."""
        x = self.talks.program.steps[stand[0]].x
        return self.worth_of(stand, x)

    def worth_of(self, stand, where):
        """The row of multiples by which a where is worth its number."""
        mark = stand[1][where]
        if mark is None:
            return {self.seats[self.talks.wide + where]: 1}
        found = {self.seats[self.talks.numbers.seats[mark[0]]]: 1}
        if mark[1] != 0:
            found[0] = mark[1]
        return found

    def columns_at(self, stand):
        """The columns of the numbers that are held at a stand."""
        if stand == SILENT:
            return []
        wide = self.talks.wide
        return [self.seats[wide + where] for where, mark in enumerate(stand[1]) if mark is None]


class Beside:
    """The runs of one image or of two."""

    def __init__(self, images):
        all_talks = [Talks(image) for image in images]
        self.wide = 1 + sum([talks.wide - 1 for talks in all_talks])
        self.sides = []
        places = 0
        held = self.wide
        for talks in all_talks:
            self.sides.append(Side(talks, places, held - talks.wide))
            places += talks.wide - 1
            held += len(talks.program.begin)
        self.broad = held

    def first_ways(self):
        return [side.talks.onward(side.talks.start()) for side in self.sides]

    def node(self, ways):
        return tuple([SILENT if way.kind == "silent" else way.goal for way in ways])

    def kinds(self, node):
        return [side.kind_of(stand) for side, stand in zip(self.sides, node)]

    def ways_behind(self, node, answer):
        return [side.way_behind(stand, answer) for side, stand in zip(self.sides, node)]

    def first_rows(self):
        """The rows of the start: if all places are 0, then what each place makes if it is 1."""
        rows = [{column: 1} for column in range(self.wide)]
        for side in self.sides:
            for column, own in enumerate(side.talks.start_rows()):
                row = rows[side.seats[column]]
                row.update({side.seats[taken]: number for taken, number in own.items()})
        return rows

    def carried(self, ways, row, handed):
        """What comes of a row by ways, if so many times its 1 is handed in."""
        found = {column: row[column] for column in range(self.wide) if column in row}
        for side, way in zip(self.sides, ways):
            if way.kind != "silent":
                found.update(held_behind(way, row, side.seats, handed * row.get(0, 0)))
        return found

    def columns(self, node):
        """The columns that the rows of a node are told with."""
        found = list(range(self.wide))
        for side, stand in zip(self.sides, node):
            found.extend(side.columns_at(stand))
        return found

    def told_apart(self, node):
        """The row of multiples by which two tells tell unlike numbers."""
        first = self.sides[0].told(node[0])
        return with_row(first, self.sides[1].told(node[1]), -1)

    def told_base(self, node, span):
        """The base of a span of rows of a node, as it is told."""
        return tuple([at_columns(row, self.columns(node)) for row in span.base()])


def at_columns(row, columns):
    return tuple([row.get(column, 0) for column in columns])


def from_columns(numbers, columns):
    """The row of a node that a row of integers tells."""
    return {column: number for column, number in zip(columns, numbers) if number != 0}


def worth_by(factors, row):
    """What numbers of a row add up to with these factors."""
    return sum([factor * row.get(column, 0) for column, factor in factors.items()])


def answers_to(kind):
    """The answers by which a run goes on behind a stand of this kind; None where it needs no choice."""
    if kind == "ask":
        return (False, True)
    return (None,) if kind in ("take", "tell") else ()


def numbers_to(kind):
    """The numbers to hand in with which all others are told."""
    return (0, 1) if kind == "take" else (0,)


def spread(beside, work):
    """The dict from nodes to the spans of all rows that come there of those of work, pairs (node, row).

    Nodes whose runs part by what kind of event they give lead nowhere, nor do runs that get lost.
    """
    spans = {}
    work = list(work)
    while work:
        node, row = work.pop()
        if spans.setdefault(node, Span()).put(row):
            work.extend(rows_behind(beside, node, row))
    return spans


def is_lost_in(ways):
    return any([way.kind == "lost" for way in ways])


def rows_behind(beside, node, row):
    """The pairs (node, row) that come of a row of a node by one event."""
    kinds = beside.kinds(node)
    found = []
    if any([kind != kinds[0] for kind in kinds]):
        return found
    for answer in answers_to(kinds[0]):
        ways = beside.ways_behind(node, answer)
        if not is_lost_in(ways):
            for handed in numbers_to(kinds[0]):
                found.append((beside.node(ways), beside.carried(ways, row, handed)))
    return found
