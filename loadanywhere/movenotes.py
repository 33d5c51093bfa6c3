"""Which multiples have to be noted along, and where it is shown at which places a run goes."""

from loadanywhere.flows import flow_behind, flow_of
from loadanywhere.freenumbers import Multiples
from loadanywhere.freeruns import FreeRun, named_word, program_of
from loadanywhere.movetables import arrivals_at, names_of, wheres_of
from loadanywhere.pieces import check_piece
from loadanywhere.talks import Talks, do_event, next_talk


class Moments:
    """What is seen of all runs ahead of each instruction: which wheres are unsure, what is put together from what."""

    def __init__(self):
        self.seen = {}
        self.doubted = {}
        self.sources = {}
        self.asked = {}

    def note(self, free, step):
        """Notes what stands at all wheres ahead of a step."""
        at = free.spot
        if step.called in ("take", "ask"):
            self.asked[at] = True
        for where, value in enumerate(free.held):
            here = {value[1]: 1} if value[0] == "at" else value[1]
            if self.seen.setdefault((at, where), here) != here:
                self.doubted[(at, where)] = True

    def note_put(self, at, where, sources):
        held = self.sources.setdefault(where, {})
        for source in sources:
            held[(at, source)] = True

    def is_doubted_at_points(self, where):
        return any([(at, where) in self.doubted for at in self.asked])

    def least_lot(self, many):
        lot = {where: True for where in range(many) if self.is_doubted_at_points(where)}
        looked = list(lot)
        while looked:
            where = looked.pop()
            for pair in self.sources.get(where, {}):
                if pair in self.doubted and pair[1] not in lot:
                    lot[pair[1]] = True
                    looked.append(pair[1])
        return lot


def sources_of(free, step):
    """The indexes of the wheres of which a step puts something together."""
    if step.called == "copy":
        return [step.y]
    if step.called in ("add", "less"):
        return [step.x, step.y]
    if step.called == "store":
        return [step.x]
    if step.called == "load":
        address = named_word(free, step)
        return [free.program.wheres[address]] if address in free.program.wheres else []
    return []


class WatchedRun(FreeRun):
    """A free run that tells its moments."""

    def __init__(self, program, moments):
        super().__init__(program)
        self.moments = moments

    def do(self, step):
        at = self.spot
        self.moments.note(self, step)
        sources = sources_of(self, step)
        target = step.x
        if step.called == "store":
            target = self.program.wheres.get(named_word(self, step))
        self.moments.note_put(at, target, sources)
        return super().do(step)

    def answered(self, step, yes):
        self.moments.note(self, step)
        return super().answered(step, yes)


def watched_at(program, moments, talks, one):
    """The run of an arrival, with the multiples of the pieces in the numbers that it holds."""
    run = WatchedRun(program, moments)
    run.spot = one.stand[0]
    held = []
    for where, mark in enumerate(one.stand[1]):
        if mark is not None:
            held.append(("at", mark[0], mark[1]))
        else:
            here = {p: one.multiple(talks.numbers, where, p) for p in talks.numbers.seats}
            held.append(("number", {p: here[p] for p in here if here[p] != 0}))
    run.held = held
    return run


def moments_of(image):
    """The moments of all free runs of an image."""
    talks = Talks(image)
    moments = Moments()
    program = program_of(image, Multiples())
    first = WatchedRun(program, moments)
    next_talk(first, first.marked())
    for one in flow_of(talks).arrivals:
        answers = (False, True) if one.kind == "ask" else (None,)
        for answer in answers:
            run = watched_at(program, moments, talks, one)
            if one.kind == "silent":
                next_talk(run, one.stand)
            elif one.kind != "stop" and do_event(run, answer):
                next_talk(run, None)
    return moments


def to_note(image):
    wheres = wheres_of(image)
    lot = moments_of(image).least_lot(len(wheres))
    return [where for index, where in enumerate(wheres) if index in lot]


def shows(talks, one, p):
    """Whether an arrival is at a tell of a value with a multiple of the place of a piece."""
    if one.kind != "tell":
        return False
    return one.multiple(talks.numbers, talks.program.steps[one.stand[0]].x, p) != 0


def shown_places(image):
    talks = Talks(image)
    arrivals = flow_of(talks).arrivals
    names = names_of(image)
    shown = {(one.stand[0], p): True for one in arrivals for p in names if shows(talks, one, p)}
    return [(at, p) for at in talks.program.steps for p in names if (at, p) in shown]


def unseen(image, at, p):
    talks = Talks(image)
    arrivals = arrivals_at(flow_of(talks), at)
    check_piece(image.pieces(), p)
    return not any([shows(talks, one, p) for one in flow_behind(talks, arrivals).arrivals])


def first_shown(image, p):
    check_piece(image.pieces(), p)
    talks = Talks(image)
    flow = flow_of(talks)
    for one in flow.arrivals:
        if shows(talks, one, p):
            return flow.trails.row_of_answers(one.trail)
    return None
