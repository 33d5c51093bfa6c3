"""Free runs with great answers: lists of truths, each so many times."""

from loadanywhere.errors import BadGreat, BadNumber, BadWorths
from loadanywhere.freeled import Led
from loadanywhere.freenumbers import NoNumbers, ONE, Residues, ResidueRows
from loadanywhere.freeruns import REGISTERS, FreeRun, program_of
from loadanywhere.kinds import is_integer, is_row, is_row_of, is_truth

MOST = 10 ** 30


def is_great(thing):
    if not is_row_of(thing, 2) or not is_row(thing[0]):
        return False
    if not all([is_truth(answer) for answer in thing[0]]):
        return False
    return is_integer(thing[1]) and 0 <= thing[1] <= MOST


def check_great(great):
    if not is_row(great):
        raise BadGreat(0)
    for index, thing in enumerate(great):
        if not is_great(thing):
            raise BadGreat(index)


class Counting:
    """Follows great answers to count how often each instruction is done."""

    def __init__(self, image):
        self.led = Led(FreeRun(program_of(image, NoNumbers())))

    def lap(self, answers, many, laps):
        """Gives answers many times, by which the run comes back to its stand, and all that laps times."""
        before = {address: count for address, count in self.led.done.items()}
        give_times(self.led, answers, many)
        for address, count in list(self.led.done.items()):
            self.led.done[address] = count + (laps - 1) * (count - before.get(address, 0))


class Reckoning:
    """Follows great answers to reckon what is held modulo a number."""

    def __init__(self, image, residues):
        self.led = Led(FreeRun(program_of(image, residues)))
        self.modulo = residues.modulo
        self.program = program_of(image, ResidueRows(residues))

    def lap(self, answers, many, laps):
        """As that of Counting: what a lap does is a row for each where, and rows can be put into rows."""
        free = self.led.free
        run = FreeRun(self.program)
        run.spot = free.spot
        run.held = [value if value[0] == "at" else ("number", {where: 1}) for where, value in enumerate(free.held)]
        give_times(Led(run), answers, many)
        rows = {where: value[1] for where, value in enumerate(run.held) if value[0] == "number"}
        rows[ONE] = {ONE: 1}
        held = {where: free.held[where][1] for where in rows if where != ONE}
        held[ONE] = 1
        held = lapped(rows, held, laps, self.modulo)
        free.held = [value if value[0] == "at" else ("number", held[where]) for where, value in enumerate(free.held)]


def worth_of(row, held, modulo):
    return sum([multiple * held[where] for where, multiple in row.items()]) % modulo


def put_together(rows, row, modulo):
    """The row in which for each where the row of it stands."""
    found = {}
    for where, multiple in row.items():
        for inner, many in rows[where].items():
            found[inner] = found.get(inner, 0) + multiple * many
    return {where: found[where] % modulo for where in found if found[where] % modulo != 0}


def lapped(rows, held, laps, modulo):
    """What is held behind so many laps, by halves: rows are put into themselves again and again."""
    while laps > 0:
        if laps % 2 == 1:
            held = {where: worth_of(rows[where], held, modulo) for where in rows}
        laps = laps // 2
        if laps > 0:
            rows = {where: put_together(rows, rows[where], modulo) for where in rows}
    return held


def give_times(led, answers, many):
    for _ in range(many):
        led.give(answers)
        # The events are asked by nobody here, and there may be very many.
        led.heard.clear()


def follow(one, answers, many):
    """Gives answers many times to a Counting or Reckoning; a run that comes back to a stand goes in a ring."""
    led = one.led
    stood = {}
    given = 0
    while given < many and not led.over:
        stand = led.free.marked()
        if stand in stood:
            ring = given - stood[stand]
            laps = (many - given) // ring
            if laps > 0:
                one.lap(answers, ring, laps)
            give_times(led, answers, (many - given) % ring)
            return
        stood[stand] = given
        give_times(led, answers, 1)
        given += 1


def follow_all(one, great):
    one.led.go_ahead()
    for answers, many in great:
        follow(one, answers, many)


def great_counts(image, great):
    check_great(great)
    counting = Counting(image)
    follow_all(counting, great)
    done = counting.led.done
    return {address: done[address] for address in counting.led.free.program.steps if address in done}


def check_modulo(modulo):
    if not is_integer(modulo) or modulo < 2:
        raise BadNumber(modulo)


def check_worths(image, worths):
    for unknown in [("piece", p) for p, _, _ in image.pieces()] + [("in", 1)]:
        if not isinstance(worths, dict) or not is_integer(worths.get(unknown)):
            raise BadWorths(unknown)


def great_registers(image, great, worths, modulo):
    check_great(great)
    check_modulo(modulo)
    check_worths(image, worths)
    places = {p: worths[("piece", p)] for p, _, _ in image.pieces()}
    reckoning = Reckoning(image, Residues(places, worths[("in", 1)], modulo))
    follow_all(reckoning, great)
    return tuple([reckoning.led.free.number_of(x) for x in range(REGISTERS)])
