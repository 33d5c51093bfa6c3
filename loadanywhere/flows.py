"""All free runs of an image at once, with the multiples of the places in the numbers that they hold.

For each piece there is a row: the multiples of its place in what is held, and 1 for the place itself. What comes of
such rows by a way is a sum by a table of integers, so of all runs that come to a stand it is enough to follow those
whose rows are in no span of those that came to it ahead.
"""

from loadanywhere.spans import Span
from loadanywhere.trails import Trails


class Arrival:
    """A run that comes to a stand: by which trail of answers, the kind of the stand, the rows of the pieces."""

    def __init__(self, trail, way, rows):
        self.trail = trail
        self.kind = way.kind
        self.stand = way.goal
        self.carries = rows

    def multiple(self, numbers, where, p):
        """The multiple of the place of a piece in the value at a where, which is told by its index."""
        mark = self.stand[1][where]
        if mark is None:
            return self.carries[numbers.seats[p] - 1].get(numbers.wide + where, 0)
        return 1 if mark[0] == p else 0


class Flow:
    """The arrivals in the order of the rows of answers that lead to them; no rows are told that need not be."""

    def __init__(self, talks):
        self.talks = talks
        self.spans = {}
        self.arrivals = []
        self.trails = Trails()
        self.waiting = []

    def is_new(self, stand, rows):
        broad = self.talks.wide + len(stand[1])
        flat = {}
        for index, row in enumerate(rows):
            for column, number in row.items():
                flat[index * broad + column] = number
        return self.spans.setdefault(stand, Span()).put(flat)

    def come(self, trail, way, rows):
        """Follows a run by a way, and on to the next ask at which it is new, or to where it is not or ends."""
        while way is not None and way.kind != "lost":
            rows = [self.talks.carried(way, row) for row in rows]
            if not self.is_new(way.goal, rows):
                return
            self.arrivals.append(Arrival(trail, way, rows))
            way = self.further(trail, way.kind, way.goal, rows)

    def further(self, trail, kind, stand, rows):
        """The way behind what needs no answer; None behind other stands, an ask being answered later."""
        if kind == "ask":
            self.ask(trail, stand, rows)
        if kind in ("take", "tell"):
            return self.talks.past(stand, None)
        if kind == "silent":
            return self.talks.onward(stand)
        return None

    def ask(self, trail, stand, rows):
        for answer in (False, True):
            self.waiting.append((self.trails.longer(trail, answer), self.talks.past(stand, answer), rows))

    def go(self):
        """Follows all runs that wait for their answers, in the order of the answers."""
        looked = 0
        while looked < len(self.waiting):
            trail, way, rows = self.waiting[looked]
            self.come(trail, way, rows)
            looked += 1


def flow_of(talks):
    """The flow of all runs of an image from the start."""
    flow = Flow(talks)
    flow.come(0, talks.onward(talks.start()), talks.start_rows()[1:])
    flow.go()
    return flow


def flow_behind(talks, arrivals):
    """The flow of all runs behind arrivals at takes and asks, from their answers on."""
    flow = Flow(talks)
    for one in arrivals:
        flow.come(0, flow.further(0, one.kind, one.stand, one.carries), one.carries)
    flow.go()
    return flow
