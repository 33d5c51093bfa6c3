"""Plain runs with the free runs that go along with them, so that it is known what of all held is an address."""

from loadanywhere.errors import Ended, HeldBack
from loadanywhere.freenumbers import NoNumbers
from loadanywhere.freeruns import REGISTERS, FreeRun, program_of
from loadanywhere.images import laid
from loadanywhere.leading import check_data, data_of, first_held, led_marks, read_led
from loadanywhere.movetables import wheres_of
from loadanywhere.pieces import kinds_of
from loadanywhere.plainsteps import PlainRun, begun, check_answers, ready_code


class AlongRun(PlainRun):
    """A plain run with its free run, None once that is lost."""

    def __init__(self, memory, code, spot, free):
        super().__init__(memory, code, spot)
        self.free = free

    def copied(self):
        free = None if self.free is None else self.free.copied()
        other = AlongRun(dict(self.memory), self.code, self.spot, free)
        other.held = list(self.held)
        other.since = self.since
        other.heard = list(self.heard)
        other.over = self.over
        return other

    def do(self, step):
        if not self.is_astray() and not self.free.do(self.free.step()):
            self.free = None
        super().do(step)

    def answer(self, answer):
        if not self.is_astray():
            step = self.free.step()
            goes_on = self.free.answered(step, answer) if step.called == "ask" else self.free.do(step)
            if not goes_on:
                self.free = None
        super().answer(answer)

    def is_astray(self):
        """Whether the free run is lost, at this address at the latest."""
        if self.free is not None and self.free.step() is None:
            self.free = None
        return self.free is None


class Lap:
    """A run of an image at a placing; it is not changed, what comes of it is another one."""

    def __init__(self, image, spots, run):
        self.image_here = image
        self.spots = spots
        self.run_here = run


def first_lap(image, places):
    run = begun(image, places)
    free = FreeRun(program_of(image, NoNumbers()))
    spots = {p: places[p] for p, _, _ in image.pieces()}
    return Lap(image, spots, AlongRun(run.memory, run.code, run.spot, free))


def given_lap(lap, answers):
    """The lap behind answers."""
    check_answers(answers)
    run = lap.run_here.copied()
    if run.over and len(answers) > 0:
        raise Ended()
    run.give(answers)
    return Lap(lap.image_here, lap.spots, run)


def waiting_lap(lap):
    """The lap at which the run waits; Ended if it ends instead."""
    run = lap.run_here.copied()
    run.go_ahead()
    if run.over:
        raise Ended()
    return Lap(lap.image_here, lap.spots, run)


def held_back_by(lap, aims):
    """The where that holds a waiting run back; None if none does."""
    if lap.run_here.is_astray():
        return "at"
    at, marks = lap.run_here.free.marked()
    if at not in aims:
        return "at"
    index = first_held(kinds_of(lap.image_here.pieces()), aims, marks)
    return None if index is None else wheres_of(lap.image_here)[index]


def word_places(image, spots):
    """The places of the data words, in order."""
    return [spots[p] + k for p, many in data_of(image) for k in range(many)]


def held_on(lap, spots, marks):
    """What registers and data words hold behind, by the marks that they have then."""
    run = lap.run_here
    found = list(run.held) + [run.memory[place] for place in word_places(lap.image_here, lap.spots)]
    for index, mark in enumerate(marks):
        if mark is not None:
            found[index] = spots[mark[0]] + mark[1]
    return found


def exchanged_run(lap, other, aims, spots):
    """The run that goes on in another image, laid at spots."""
    at, marks = lap.run_here.free.marked()
    newer = led_marks(kinds_of(lap.image_here.pieces()), aims, marks)
    held = held_on(lap, spots, newer)
    memory = laid(other, spots)
    for place, worth in zip(word_places(other, spots), held[REGISTERS:]):
        memory[place] = worth
    free = FreeRun(program_of(other, NoNumbers()))
    free.spot = aims[at]
    free.held = [("number", None) if mark is None else ("at", mark[0], mark[1]) for mark in newer]
    run = AlongRun(memory, ready_code(other.pieces(), spots, memory), spots[aims[at][0]] + aims[at][1], free)
    run.held = held[:REGISTERS]
    run.since = lap.run_here.since
    run.heard = list(lap.run_here.heard)
    return run


def exchanged_lap(lap, other, led, places):
    """The lap of another image that goes on where the run waits, its code pieces at places."""
    waiting = waiting_lap(lap)
    check_data(lap.image_here, other)
    aims = read_led(lap.image_here, other, led)
    given = places if isinstance(places, dict) else {}
    data = [p for p, _ in data_of(other)]
    spots = {p: lap.spots[p] if p in data else given.get(p) for p, _, _ in other.pieces()}
    laid(other, spots)
    where = held_back_by(waiting, aims)
    if where is not None:
        raise HeldBack(where)
    return Lap(other, spots, exchanged_run(waiting, other, aims, spots))
