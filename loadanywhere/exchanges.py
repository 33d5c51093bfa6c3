"""Whether another image can go on, unseen, where runs of an image wait."""

from loadanywhere.beside import Beside, spread
from loadanywhere.courses import check_lost, courses_from, loss_of
from loadanywhere.errors import NoPoint
from loadanywhere.kinds import read_address
from loadanywhere.leading import check_data, first_held, led_marks, read_led
from loadanywhere.movetables import wheres_of
from loadanywhere.partings import Search
from loadanywhere.pieces import kinds_of


def spans_of(alone):
    """The dict from the nodes of the runs of one image to the spans of all rows that come there."""
    ways = alone.first_ways()
    first = alone.node(ways)
    return spread(alone, [(first, alone.carried(ways, row, 0)) for row in alone.first_rows()])


def shared_columns(both, kinds):
    """The dict from the columns of the first image alone to those that hold the same of both side by side.

    Kinds are those of the pieces of the first: data pieces lie where they lie, and what is held is held on.
    """
    mine, others = both.sides
    found = {0: [0]}
    for p, column in mine.talks.numbers.seats.items():
        found[column] = [mine.seats[column]]
        if kinds[p] == "data":
            found[column].append(others.seats[others.talks.numbers.seats[p]])
    for where in range(len(mine.talks.program.begin)):
        column = mine.talks.wide + where
        found[column] = [mine.seats[column], others.seats[others.talks.wide + where]]
    return found


def code_columns(side, image):
    """The columns of the places of the code pieces of an image."""
    return [side.seats[side.talks.numbers.seats[p]] for p, kind, _ in image.pieces() if kind == "code"]


class Waits:
    """The stands at which free runs of one wait, by the first rows that lead there, and what other does from there."""

    def __init__(self, one, other, led):
        check_lost([one])
        self.wheres_told = wheres_of(one)
        self.kind_by_piece = kinds_of(one.pieces())
        self.aims = led
        self.both = Beside([one, other])
        self.other_alone = Beside([other])
        self.shared = shared_columns(self.both, self.kind_by_piece)
        self.free_rows = [{column: 1} for column in code_columns(self.both.sides[1], other)]
        alone = Beside([one])
        courses = courses_from(alone, alone.first_ways())
        self.spans = spans_of(alone)
        self.first_rows_by_stand = {node[0]: courses.truths(node) for node in courses.nodes()
                                    if alone.kinds(node)[0] in ("take", "ask")}

    def points(self):
        return list({stand[0]: True for stand in self.first_rows_by_stand})

    def at_point(self, at):
        """The pairs (stand, first row) of the stands at a point, in the order of the rows."""
        return [(stand, row) for stand, row in self.first_rows_by_stand.items() if stand[0] == at]

    def held_by_stand(self, stand):
        """The where that holds back a run at a stand; None if none does."""
        at, marks = stand
        if at not in self.aims:
            return "at"
        index = first_held(self.kind_by_piece, self.aims, marks)
        return None if index is None else self.wheres_told[index]

    def stand_behind(self, stand):
        at, marks = stand
        return (self.aims[at], led_marks(self.kind_by_piece, self.aims, marks))

    def loss_behind(self, stand):
        """The first row of truths by which other gets lost behind a stand; None if it does not."""
        side = self.other_alone.sides[0]
        return loss_of(courses_from(self.other_alone, [side.talks.onward(self.stand_behind(stand))]))

    def parting_behind(self, stand):
        """The least number of answers behind which some run that waits at a stand parts; None if none does."""
        rows = [{column: number for own, number in row.items() for column in self.shared[own]}
                for row in self.spans[(stand,)].base()]
        mine, others = self.both.sides
        search = Search(self.both)
        search.go([mine.talks.onward(stand), others.talks.onward(self.stand_behind(stand))], rows + self.free_rows)
        return None if search.found is None else len(search.trails.row_of_answers(search.found))

    def why_not_here(self, here):
        """What is against exchanging at a point of these stands; None if nothing is."""
        for stand, row in here:
            where = self.held_by_stand(stand)
            if where is not None:
                return ("held", row, where)
        losses = of_first_row([(row, self.loss_behind(stand)) for stand, row in here])
        if losses:
            return ("lost", losses[0][0], min([loss for _, loss in losses], key=lambda loss: (len(loss), loss)))
        partings = of_first_row([(row, self.parting_behind(stand)) for stand, row in here])
        if partings:
            return ("parts", partings[0][0], min([many for _, many in partings]))
        return None


def of_first_row(pairs):
    """Of pairs (row, what is against it there, or None) those that are against it by the first such row."""
    found = [(row, against) for row, against in pairs if against is not None]
    return [(row, against) for row, against in found if row == found[0][0]]


class Exchange:
    """An image, another one, and where runs of the one are led in the other."""

    def __init__(self, one, other, led):
        check_data(one, other)
        self.aims = read_led(one, other, led)
        self.one = one
        self.other = other
        self.led = {address: aim for address, aim in self.aims.items()}

    def unseen(self):
        waits = Waits(self.one, self.other, self.aims)
        return [at for at in waits.points() if waits.why_not_here(waits.at_point(at)) is None]

    def why_not(self, at):
        waits = Waits(self.one, self.other, self.aims)
        here = waits.at_point(read_address(at))
        if not here:
            raise NoPoint(at)
        return waits.why_not_here(here)
