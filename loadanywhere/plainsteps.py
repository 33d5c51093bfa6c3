"""Plain runs at told places, going on from answer to answer."""

from loadanywhere.errors import BadAnswer
from loadanywhere.images import laid
from loadanywhere.kinds import is_integer, is_row, is_truth
from loadanywhere.steps import LIMIT, Step
from loadanywhere.words import LONG, NEAR, instruction_in


def ready_step(worths, k, here):
    """The step at the offset k of a code piece whose words have these worths; None if none stands there."""
    found = instruction_in((worths[k], ()))
    if found is None:
        return None
    called, x, y, d = found
    step = Step(called, x, y, d)
    step.behind = here + 1
    if called in NEAR:
        step.aim = here + d
    if called in LONG:
        if k + 1 == len(worths):
            return None
        step.behind = here + 2
        step.aim = worths[k + 1]
    return step


def ready_code(pieces, places, memory):
    """The dict from the places of all words of code pieces to steps, or None."""
    found = {}
    for p, kind, words in pieces:
        if kind == "code":
            worths = [memory[places[p] + k] for k in range(len(words))]
            for k in range(len(words)):
                found[places[p] + k] = ready_step(worths, k, places[p] + k)
    return found


def do_tell(run, step):
    run.heard.append(("tell", run.held[step.x]))
    return step.behind


def do_go(run, step):
    return step.aim


def do_put(run, step):
    run.held[step.x] = step.aim
    return step.behind


def do_copy(run, step):
    run.held[step.x] = run.held[step.y]
    return step.behind


def do_add(run, step):
    run.held[step.x] += run.held[step.y]
    return step.behind


def do_less(run, step):
    run.held[step.x] -= run.held[step.y]
    return step.behind


def do_load(run, step):
    place = run.held[step.y] + step.d
    if place not in run.memory:
        return None
    run.held[step.x] = run.memory[place]
    return step.behind


def do_store(run, step):
    place = run.held[step.y] + step.d
    if place not in run.memory or place in run.code:
        return None
    run.memory[place] = run.held[step.x]
    return step.behind


def do_call(run, step):
    run.held[7] = step.behind
    return step.aim


def do_jump(run, step):
    return run.held[step.x]


# Each returns the place at which the run goes on, or None if it cannot be done.
ACTIONS = {
    "tell": do_tell, "go": do_go, "put": do_put, "copy": do_copy, "add": do_add, "less": do_less,
    "load": do_load, "store": do_store, "call": do_call, "jump": do_jump,
}


class PlainRun:
    """One plain run: its words by places, its registers, the place at which it stands, what it had of events."""

    def __init__(self, memory, code, spot):
        self.memory = memory
        self.code = code
        self.spot = spot
        self.held = [0] * 8
        self.since = 0
        self.heard = []
        self.over = False

    def copied(self):
        other = PlainRun(dict(self.memory), self.code, self.spot)
        other.held = list(self.held)
        other.since = self.since
        other.heard = list(self.heard)
        other.over = self.over
        return other

    def end(self, event):
        self.heard.append(event)
        self.over = True

    def go_ahead(self):
        """Goes on to the next take or ask, or to the end."""
        while not self.over:
            step = self.code.get(self.spot)
            if self.since == LIMIT:
                self.end(("silent",))
            elif step is None:
                self.end(("fall", self.spot))
            elif step.called == "stop":
                self.end(("stop",))
            elif step.called in ("take", "ask"):
                return
            else:
                self.do(step)

    def do(self, step):
        action = ACTIONS[step.called]
        spot = action(self, step)
        if spot is None:
            self.end(("fall", self.spot))
        else:
            self.spot = spot
            self.since += 1

    def fits(self, answer):
        if self.code[self.spot].called == "take":
            return is_integer(answer)
        return is_truth(answer)

    def answer(self, answer):
        """What the world says at the take or ask at which the run stands."""
        step = self.code[self.spot]
        if step.called == "take":
            self.held[step.x] = answer
        self.heard.append((step.called, answer))
        self.spot = step.aim if step.called == "ask" and answer else step.behind
        self.since = 0

    def give(self, answers):
        """Goes on with answers in turn, to where none is left, or to the end."""
        self.go_ahead()
        for index, answer in enumerate(answers):
            if self.over:
                return
            if not self.fits(answer):
                raise BadAnswer(index)
            self.answer(answer)
            self.go_ahead()


def begun(image, places):
    """The plain run that stands at the start of an image laid at places."""
    memory = laid(image, places)
    p, k = image.first
    return PlainRun(memory, ready_code(image.pieces(), places, memory), places[p] + k)


def check_answers(answers):
    if not is_row(answers):
        raise BadAnswer(0)
