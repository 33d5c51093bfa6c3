"""Free runs, step by step: of what stands anywhere, only addresses and numbers are told apart."""

from loadanywhere.pieces import words_of
from loadanywhere.steps import Step
from loadanywhere.sums import address_in, sum_at, with_times
from loadanywhere.words import LONG, NEAR, instruction_in

REGISTERS = 8


def value_in(one, numbers):
    """The value that a word, a sum in the one form, is: ("at", p, k) or ("number", number)."""
    address = address_in(one)
    if address is None:
        return ("number", numbers.constant(one))
    return ("at", address[0], address[1])


def aim_of(found, here, second):
    """The sum to which an instruction leads, or which it puts; None for one that does neither."""
    called, _, _, d = found
    if called in LONG:
        return second
    if called not in NEAR:
        return None
    return with_times(sum_at(here), (d, ()) if isinstance(d, int) else d, 1)


def free_step(sums, here, numbers):
    """The step at an address of a code piece; None where a free run is lost as soon as it comes there."""
    found = instruction_in(sums[here])
    if found is None:
        return None
    called, x, y, d = found
    p, k = here
    if called not in NEAR and not isinstance(d, int):
        return None
    if called in LONG and (p, k + 1) not in sums:
        return None
    step = Step(called, x, y, d)
    step.behind = (p, k + 2) if called in LONG else (p, k + 1)
    aim = aim_of(found, here, sums.get((p, k + 1)))
    if aim is not None:
        step.aim = value_in(aim, numbers)
    return step


class Program:
    """Pieces made ready for free runs that begin at first, with numbers of one kind."""

    def __init__(self, pieces, first, numbers):
        self.numbers = numbers
        self.first = first
        self.steps = {}
        self.fixed = {}
        self.wheres = {}
        zero = ("number", numbers.constant((0, ())))
        self.begin = [zero] * REGISTERS
        sums = words_of(pieces)
        for p, kind, words in pieces:
            for k, word in enumerate(words):
                if kind == "code":
                    self.steps[(p, k)] = free_step(sums, (p, k), numbers)
                    self.fixed[(p, k)] = value_in(word, numbers)
                else:
                    self.wheres[(p, k)] = len(self.begin)
                    self.begin.append(value_in(word, numbers))


def program_of(image, numbers):
    return Program(image.pieces(), image.first, numbers)


def go_on(run, value):
    """Goes on at a value, if it is an address; tells whether it is."""
    if value[0] != "at":
        return False
    run.spot = (value[1], value[2])
    return True


def named_word(run, step):
    """The address that a load or store names; None if it names none."""
    value = run.held[step.y]
    if value[0] != "at":
        return None
    return (value[1], value[2] + step.d)


def put(run, step, value):
    run.held[step.x] = value
    run.spot = step.behind
    return True


def do_take(run, step):
    run.takes += 1
    return put(run, step, ("number", run.program.numbers.handed(run.takes)))


def do_tell(run, step):
    run.spot = step.behind
    return True


def do_go(run, step):
    return go_on(run, step.aim)


def do_put(run, step):
    return put(run, step, step.aim)


def do_copy(run, step):
    return put(run, step, run.held[step.y])


def do_add(run, step):
    return put(run, step, ("number", run.reckoned(step, 1)))


def do_less(run, step):
    return put(run, step, ("number", run.reckoned(step, -1)))


def do_load(run, step):
    address = named_word(run, step)
    if address in run.program.wheres:
        return put(run, step, run.held[run.program.wheres[address]])
    if address in run.program.fixed:
        return put(run, step, run.program.fixed[address])
    return False


def do_store(run, step):
    address = named_word(run, step)
    if address not in run.program.wheres:
        return False
    run.held[run.program.wheres[address]] = run.held[step.x]
    run.spot = step.behind
    return True


def do_call(run, step):
    if not go_on(run, step.aim):
        return False
    run.held[7] = ("at", step.behind[0], step.behind[1])
    return True


def do_jump(run, step):
    return go_on(run, run.held[step.x])


# Each tells whether the step could be done; a step that could not changes nothing.
ACTIONS = {
    "take": do_take, "tell": do_tell, "go": do_go, "put": do_put, "copy": do_copy, "add": do_add,
    "less": do_less, "load": do_load, "store": do_store, "call": do_call, "jump": do_jump,
}


class FreeRun:
    """Where a free run stands: its address, the values of registers and data words, its takes so far."""

    def __init__(self, program):
        self.program = program
        self.spot = program.first
        self.held = list(program.begin)
        self.takes = 0

    def copied(self):
        other = FreeRun(self.program)
        other.spot = self.spot
        other.held = list(self.held)
        other.takes = self.takes
        return other

    def step(self):
        return self.program.steps.get(self.spot)

    def do(self, step):
        """Does a step that is no ask and no stop; tells whether it could be done."""
        action = ACTIONS[step.called]
        return action(self, step)

    def answered(self, step, yes):
        """Goes on behind an ask; tells whether there is an address to go on at."""
        if yes:
            return go_on(self, step.aim)
        self.spot = step.behind
        return True

    def number_of(self, x):
        """What the register x is worth as a number, whether it holds one or an address."""
        value = self.held[x]
        if value[0] == "at":
            return self.program.numbers.constant(sum_at((value[1], value[2])))
        return value[1]

    def reckoned(self, step, many):
        return self.program.numbers.added(self.number_of(step.x), self.number_of(step.y), many)

    def marked(self):
        marks = [(value[1], value[2]) if value[0] == "at" else None for value in self.held]
        return (self.spot, tuple(marks))
