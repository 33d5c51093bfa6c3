"""Programs that are exchanged while they run, and exchanging followed a second way, by sums."""

import itertools

from loadanywhere.assembling import assembled, listing
from loadanywhere.sums import put_in
from loadanywhere.units import image_of
from loadanywhere.walks import lost_row
from tests.naive import naive_free


def letter(index):
    return "abcdefghijklmnop"[index]


class Program:
    """Rows (key, row) of a main piece and of a helper, key None for what another program has not; words of data."""

    def __init__(self, rows, helper, data):
        self.rows, self.helper, self.data = rows, helper, data
        self.lines, self.keys = ["code main", "start:"], {}
        self.put("first", "set r5 tab")
        self.put("second", "set r4 main")
        for key, row in rows:
            if key is not None:
                self.lines.append(f"l{letter(key)}:")
            self.put(key, row)
        self.put("last", "goany la")
        self.lines += ["code sub"]
        for key, row in helper:
            self.put(key, row)
        self.put("back", "jump r7")
        self.lines += ["data tab", "word " + " ".join(data), "told start"]
        self.text = "\n".join(self.lines)
        self.image = image_of(assembled(self.text), "start")

    def put(self, key, row):
        self.lines.append(row)
        if key is not None:
            self.keys[len(self.lines)] = key

    def spots(self):
        """The dict from keys to addresses."""
        return {self.keys[lines[0]]: (p, k) for lines, p, k, _ in listing(self.text) if lines[0] in self.keys}


def random_row(rng, many):
    kind = rng.choice(["ask", "ask", "ask", "take", "take", "tell", "tell", "add", "less", "copy", "load", "store", "set",
                       "jump", "call", "turn"])
    x, y = rng.choice("123"), rng.choice("123")
    to = "l" + letter(rng.randrange(many))
    return {"ask": f"ask {to}", "take": f"take r{x}", "tell": f"tell r{x}", "add": f"add r{x} r{y}",
            "less": f"less r{x} r{y}", "copy": f"copy r{x} r{y}", "load": f"load r{x} r5 {rng.randint(0, 1)}",
            "store": f"store r{x} r5 {rng.randint(0, 1)}", "set": f"set r{x} {rng.choice(['0', '1', 'tab', 'main'])}",
            "jump": "copy r6 r4", "call": "callfar sub", "turn": f"set r6 {to}"}[kind]


def random_program(rng):
    """A program that does not get lost, and mostly waits."""
    while True:
        many = rng.randint(2, 6)
        rows = [(key, random_row(rng, many)) for key in range(many)]
        rows.append((many, rng.choice(["ask la", "take r1", "ask lb", "take r2"])))
        helper = [("h" + letter(index), rng.choice(["add r1 r1", "tell r2", "take r3", "copy r2 r1", "add r2 r3"]))
                  for index in range(rng.randint(0, 2))]
        found = Program(rows, helper, [rng.choice(["0", "1", "tab", "5"]) for _ in range(2)])
        if lost_row(found.image) is None:
            return found


def other_program(rng, program):
    """A program that is perhaps alike: rows put in that do nothing, rows otherwise, other numbers."""
    rows, helper = list(program.rows), list(program.helper)
    for _ in range(rng.choice([0, 1, 1, 2])):
        chance = rng.random()
        if chance < 0.5:
            rows.insert(rng.randint(0, len(rows)), (None, rng.choice(["copy r0 r0", "copy r1 r1", "add r0 r0", "set r0 0"])))
        elif chance < 0.65:
            index = rng.randrange(len(rows))
            rows[index] = (rows[index][0], random_row(rng, len(program.rows)))
        elif chance < 0.75:
            helper.insert(rng.randint(0, len(helper)), (None, rng.choice(["copy r0 r0", "add r1 r0", "tell r1"])))
        elif chance < 0.85:
            rows.insert(rng.randint(0, len(rows)), (None, rng.choice(["jump r1", "load r0 r1 0", "tell r4", "tell r5"])))
        else:
            index = rng.randrange(len(rows))
            rows[index] = (rows[index][0], rows[index][1].replace("r1", "r2"))
    data = [rng.choice(["0", "9"]) if rng.random() < 0.2 else word for word in program.data]
    return Program(rows, helper, data)


def led_by_chance(rng, program, other):
    """Each row is led to its own in the other program, a few perhaps not."""
    mine, others = program.spots(), other.spots()
    leave_out = rng.choice([0, 0, 0, 0.1, 0.3])
    return {address: others[key] for key, address in mine.items() if key in others and rng.random() >= leave_out}


def elder_numbers(state):
    """A state of a free run in which the numbers handed in so far are called otherwise."""
    def value(held):
        if held[0] == "at":
            return held
        return ("number", put_in(held[1], {("in", k): (0, ((("in", k + 1000), 1),)) for k in range(1, 60)}))
    at, registers, words = state
    return (at, tuple(value(held) for held in registers), {address: value(held) for address, held in words.items()})


def waits_by(image, answers, point):
    """The states in which the free run with these answers waits at a point for what comes next of them all."""
    states = []

    def watch(at, ins, registers, data, given):
        if at == point and given == len(answers):
            states.append((at, tuple(registers), dict(data)))
    naive_free(image, answers, watch, 200)
    return states


def where_held(image, state, led):
    """Where a wait holds back, or None."""
    kinds = {p: kind for p, kind, _ in image.pieces()}
    if state[0] not in led:
        return "at"
    for n, held in enumerate(state[1]):
        if held[0] == "at" and kinds[held[1]] == "code" and held[1:] not in led:
            return ("register", n)
    for (p, k), held in state[2].items():
        if held[0] == "at" and kinds[held[1]] == "code" and held[1:] not in led:
            return ("word", p, k)
    return None


def exchanged(image, state, led):
    """The state in the other image."""
    kinds = {p: kind for p, kind, _ in image.pieces()}

    def value(held):
        return ("at",) + led[held[1:]] if held[0] == "at" and kinds[held[1]] == "code" else held
    return (led[state[0]], tuple(value(held) for held in state[1]), {key: value(held) for key, held in state[2].items()})


def stand_of(state):
    marks = [held[1:] if held[0] == "at" else None for held in [*state[1], *state[2].values()]]
    return (state[0], tuple(marks))


def first_loss(other, state, depth):
    """The first row of truths by which the other image gets lost from a state on, or None."""
    for many in range(depth + 1):
        for row in itertools.product((False, True), repeat=many):
            if naive_free(other, list(row), None, 160, state)[0][-1][0] == "lost":
                return row
    return None


def events_from(image, row, state):
    """The events that come from a state on; those of an endless row of them are cut off somewhere."""
    events = naive_free(image, list(row), None, 160, state)[0]
    asks = [index for index, event in enumerate(events) if event[0] == "ask"]
    if events[-1] == ("silent",) and len(events) - (asks[-1] if asks else 0) > 8:
        return events[:-1]
    return events


def renamed_sum(one, names):
    """A sum with elder names for the places of some pieces."""
    return put_in(one, {("piece", p): (0, ((("piece", p + "old"), 1),)) for p in names})


def with_elder_places(state, names):
    """A state in whose numbers the places of these pieces are those of the elder ones."""
    def value(held):
        return held if held[0] == "at" else ("number", renamed_sum(held[1], names))
    return (state[0], tuple(value(held) for held in state[1]), {key: value(held) for key, held in state[2].items()})


def least_parting_by(one, other, state, newer, depth):
    """The least number of answers, takes counted, behind which both part that go on from their states, or None."""
    code = {p for image in (one, other) for p, kind, _ in image.pieces() if kind == "code"}
    best = None
    for row in itertools.product((False, True), repeat=depth):
        mine = events_from(one, row, elder_numbers(state))
        mine = [("tell", renamed_sum(event[1], code)) if event[0] == "tell" else event for event in mine]
        others = events_from(other, row, with_elder_places(elder_numbers(newer), code))
        answers = 0
        for event, found in zip(mine, others):
            if event != found:
                best = answers if best is None else min(best, answers)
                break
            answers += event[0] in ("take", "ask")
    return best
