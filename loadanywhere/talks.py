"""The ways of free runs from one instruction that gives an event to the next, as tables of integers."""

from loadanywhere.freeruns import FreeRun, program_of
from loadanywhere.spans import with_row

# The instructions that give an event themselves.
TALKING = ("take", "tell", "ask", "stop")

# The column of the number that a take hands in; that of the number 1 is 0, the places stand behind it.
HANDED = -1


class Columns:
    """Numbers are dicts from columns to multiples: 1, the places, what was held where a way begins."""

    def __init__(self, image):
        self.seats = {p: column for column, (p, _, _) in enumerate(image.pieces(), start=1)}
        self.wide = len(self.seats) + 1

    def constant(self, one):
        found = {self.seats[of]: multiple for (_, of), multiple in one[1]}
        if one[0] != 0:
            found[0] = one[0]
        return found

    def handed(self, k):
        return {HANDED: 1}

    def added(self, one, other, many):
        return with_row(one, other, many)

    def shown(self, number):
        return number


class Way:
    """What comes of a stand: the stand to which it leads, what kind it is, and the numbers that are held there.

    The kind is that of the instruction, or "silent" (the stand is one to which the run comes again and again), or
    "lost". Numbers are held as before (kept), or are rows of what was held before (newer), by wheres.
    """

    def __init__(self, kind, goal):
        self.kind = kind
        self.goal = goal
        self.kept = []
        self.newer = {}


def next_talk(free, begun):
    """Goes on to the next instruction that gives an event; tells the kind of what comes. Begun is a stand or None."""
    stood = {begun: True}
    while True:
        step = free.step()
        if step is None:
            return "lost"
        if step.called in TALKING:
            return step.called
        if not free.do(step):
            return "lost"
        # No run comes back to a stand without one of these.
        if step.called in ("go", "call", "jump"):
            stand = free.marked()
            if stand in stood:
                return "silent"
            stood[stand] = True


def do_event(free, answer):
    """Does the take, tell or ask at which a free run stands; tells whether it can go on."""
    step = free.step()
    if step.called == "ask":
        return free.answered(step, answer)
    return free.do(step)


def held_behind(way, row, seats, handed):
    """What is held behind a way if a row holds ahead of it; seats are the columns of the row for those of the way."""
    found = {}
    for column in way.kept:
        if seats[column] in row:
            found[seats[column]] = row[seats[column]]
    for column, parts in way.newer.items():
        worth = 0
        for taken, multiple in parts.items():
            worth += multiple * (handed if taken == HANDED else row.get(seats[taken], 0))
        if worth != 0:
            found[seats[column]] = worth
    return found


class Talks:
    """The free runs of an image from stand to stand; each way is looked for once."""

    def __init__(self, image):
        self.numbers = Columns(image)
        self.program = program_of(image, self.numbers)
        self.wide = self.numbers.wide
        self.own_columns = list(range(self.wide + len(self.program.begin)))
        self.onwards = {}
        self.behinds = {}

    def run_at(self, stand):
        free = FreeRun(self.program)
        free.spot = stand[0]
        held = []
        for where, mark in enumerate(stand[1]):
            held.append(("number", {self.wide + where: 1}) if mark is None else ("at", mark[0], mark[1]))
        free.held = held
        return free

    def way_of(self, free, kind):
        way = Way(kind, free.marked())
        for where, value in enumerate(free.held):
            column = self.wide + where
            if value[0] == "number" and len(value[1]) == 1 and value[1].get(column) == 1:
                way.kept.append(column)
            elif value[0] == "number":
                way.newer[column] = value[1]
        return way

    def onward(self, stand):
        """The way from any stand to the first talking one, itself perhaps."""
        if stand not in self.onwards:
            free = self.run_at(stand)
            kind = next_talk(free, stand)
            self.onwards[stand] = self.way_of(free, kind)
        return self.onwards[stand]

    def past(self, stand, answer):
        """The way from a talking stand by an answer to an ask, else None, to the next one."""
        if (stand, answer) not in self.behinds:
            free = self.run_at(stand)
            kind = next_talk(free, None) if do_event(free, answer) else "lost"
            self.behinds[(stand, answer)] = self.way_of(free, kind)
        return self.behinds[(stand, answer)]

    def start(self):
        return FreeRun(self.program).marked()

    def start_rows(self):
        """The rows of the start: for 1 alone, then for each place alone."""
        rows = [{column: 1} for column in range(self.wide)]
        for where, value in enumerate(self.program.begin):
            if value[0] == "number":
                for column, multiple in value[1].items():
                    row = rows[column]
                    row[self.wide + where] = multiple
        return rows

    def carried(self, way, row):
        """What comes of a row by a way; nothing is handed in."""
        found = {column: row[column] for column in range(self.wide) if column in row}
        found.update(held_behind(way, row, self.own_columns, 0))
        return found
