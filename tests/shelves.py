"""Shelves for tests: a small one that is told by hand, and ones by chance, with a process followed a second way."""

from loadanywhere.modules import Module, Shelf
from loadanywhere.units import Unit
from loadanywhere.words import coded, instruction
from tests.helpers import at, named
from tests.naive import LONG, as_address, sum_of_value, value_of
from loadanywhere.sums import minus, plus

TAKE, TELL, ASK, GO, GOFAR, SET, COPY, ADD, LESS, LOAD, STORE, JUMP = 1, 2, 3, 5, 6, 7, 9, 10, 11, 12, 13, 16


def main_unit():
    """Its slots: first of late one, then of late maybe; set r1 to them, load, tell, ask, and so on."""
    words = [coded(SET, 1), at("slots"), coded(LOAD, 2, 1), coded(TELL, 2), coded(ASK, 0, 0, -2),
             coded(LOAD, 3, 1, 1), coded(TELL, 3), coded(ASK, 0, 0, -2), coded(0)]
    return Unit([("main", "code", words), ("slots", "data", [named("one"), named("maybe"), named("one")])],
                {"main": ("main", 0), "table": ("slots", 0)})


def small_shelf():
    """main needs lib; lib and other both tell one; other tells maybe, too; lone stands by itself."""
    lib = Unit([("lib", "data", [1, 2])], {"one": ("lib", 0)})
    other = Unit([("other", "data", [3, 4, named("table")])], {"one": ("other", 1), "maybe": ("other", 0)})
    lone = Unit([("lone", "data", [named("maybe"), named("none")])], {"lone": ("lone", 1)})
    return Shelf([
        Module("main", main_unit(), ["lib"], ["maybe"], ["one", "maybe"]),
        Module("lib", lib),
        Module("other", other),
        Module("lone", lone, [], ["none"]),
    ])


def random_shelf(rng, many=4):
    """Modules that tell names some of which are told twice, with what they want weak, late or neither."""
    names = ["m" + "abcde"[index] for index in range(many)]
    words = ["na", "nb", "nc", "nd"]
    modules = []
    for index, name in enumerate(names):
        own = rng.sample(words, rng.randint(0, 2))
        others = [word for word in words if word not in own]
        wanted = rng.sample(others, rng.randint(0, min(2, len(others))))
        p, q = "c" + "abcde"[index], "d" + "abcde"[index]
        late = [word for word in wanted if rng.random() < 0.6]
        weak = [word for word in wanted if rng.random() < 0.6]
        data = [named(word) for word in late + late if rng.random() < 0.8] + [named(word) for word in wanted]
        data.append(rng.choice([5, at(p), at(q)]))
        code = random_code(rng, p, q, len(data), [word for word in wanted if word not in late] + own)
        told = {word: rng.choice([(p, 0), (q, 0), (p, 2)]) for word in own}
        if index == 0:
            told["begin"] = (p, 0)
        needs = [other for other in names if rng.random() < 0.25]
        modules.append(Module(name, Unit([(p, "code", code), (q, "data", data)], told), needs, weak, late))
    return Shelf(modules)


def random_code(rng, p, q, many, names):
    """Goes round: sets r1 to its data, loads, stores, tells, asks, sets what names mean, goes to what was loaded."""
    code = [coded(SET, 1), at(q)]
    for _ in range(rng.randint(3, 9)):
        x = rng.choice([2, 2, 3])
        kind = rng.choice(["load", "load", "load", "store", "tell", "ask", "name", "add", "copy", "jump", "take"])
        if kind in ("load", "store"):
            code.append(coded(LOAD if kind == "load" else STORE, x, 1, rng.randrange(many)))
        elif kind == "tell":
            code.append(coded(TELL, x))
        elif kind == "take":
            code.append(coded(TAKE, x))
        elif kind == "ask":
            code.append(coded(ASK, 0, 0, -len(code) if rng.random() < 0.7 else 1))
        elif kind == "name" and names:
            code += [coded(SET, x), named(rng.choice(names))]
        elif kind == "add":
            code.append(coded(ADD, x, rng.choice([2, 3])))
        elif kind == "copy":
            code.append(coded(COPY, x, rng.choice([1, 2, 3])))
        elif kind == "jump" and rng.random() < 0.3:
            code += [coded(ASK, 0, 0, 2), coded(JUMP, x)]
    return code + [coded(ASK, 0, 0, -len(code)), coded(GO, 0, 0, -len(code) - 1)]


class NaiveProcess:
    """A process as the document tells it; words are looked up when they are needed."""

    def __init__(self, shelf, root, name):
        self.shelf = shelf
        self.open = []
        self.present = []
        self.links = {}
        self.stored = {}
        self.bring(root)
        self.at = self.meaning(name)[1]
        self.r = [("number", (0, ()))] * 8
        self.heard = []
        self.takes = 0
        self.since = 0
        self.over = False
        self.begun = False

    def group(self, name):
        found = [name]
        for one in found:
            found += [other for other in self.shelf.module(one).required if other not in found]
        return found

    def scope(self):
        found = []
        for name in self.open:
            found += [one for one in self.group(name) if one not in found]
        return found

    def meaning(self, wanted):
        for name in self.scope():
            told = self.shelf.module(name).content.told()
            if wanted in told:
                return (name, told[wanted])
        return None

    def bring(self, name, ahead=False):
        elder = (list(self.open), list(self.present), dict(self.links))
        self.open = [name] + self.open if ahead else self.open + [name]
        newer = [one for one in self.group(name) if one not in self.present]
        for one in newer:
            self.present.append(one)
            module = self.shelf.module(one)
            for wanted in module.content.wanted():
                if wanted not in module.late:
                    self.links[(one, wanted)] = self.meaning(wanted)
                    if self.meaning(wanted) is None and wanted not in module.weak:
                        self.open, self.present, self.links = elder
                        return False
        return True

    def module_of(self, p):
        return [name for name in self.present if p in [one for one, _, _ in self.shelf.module(name).content.pieces()]][0]

    def data(self):
        return [(p, k) for name in self.present for p, kind, words in self.shelf.module(name).content.pieces()
                if kind == "data" for k in range(len(words))]

    def close(self, name):
        self.open.remove(name)
        held = set(self.scope())
        held.add(self.module_of(self.at[0]))
        held |= {self.module_of(value[1]) for value in self.r if value[0] == "at"}
        for _ in range(len(self.present) + 1):
            for (one, _), target in self.links.items():
                if one in held and target is not None:
                    held.add(target[0])
            for address in self.data():
                value = self.value(address)
                if self.module_of(address[0]) in held and value[0] == "at":
                    held.add(self.module_of(value[1]))
        gone = [one for one in self.present if one not in held]
        self.stored = {address: value for address, value in self.stored.items()
                       if self.module_of(address[0]) not in gone}
        self.present = [one for one in self.present if one in held]
        self.links = {pair: target for pair, target in self.links.items() if pair[0] in held}

    def raw(self, address):
        for name in self.present:
            for p, kind, words in self.shelf.module(name).content.pieces():
                if p == address[0] and 0 <= address[1] < len(words):
                    return (name, kind, words[address[1]])
        return None

    def resolved(self, name, word):
        number, parts = word
        found = (number, ())
        told = self.shelf.module(name).content.told()
        for unknown, multiple in parts:
            one = (0, [(unknown, multiple)])
            if unknown[0] == "name":
                target = told.get(unknown[1]) or (self.links.get((name, unknown[1])) or (None, None))[1]
                one = 0 if target is None else (multiple * target[1], [(("piece", target[0]), multiple)])
            found = plus(found, one)
        return found

    def value(self, address):
        if address in self.stored:
            return self.stored[address]
        name, _, word = self.raw(address)
        return value_of(self.resolved(name, word))

    def slot(self, address):
        """The module and name of a slot that is not bound and not stored to."""
        name, kind, word = self.raw(address)
        for unknown, _ in word[1]:
            if kind == "data" and unknown[0] == "name" and unknown[1] in self.shelf.module(name).late:
                if address not in self.stored and (name, unknown[1]) not in self.links:
                    return (name, unknown[1])
        return None

    def give(self, answers):
        stood = len(self.heard)
        answers = list(answers)
        while not self.over and self.step(answers):
            pass
        return self.heard[stood:]

    def end(self, event):
        self.heard.append(event)
        self.over = True
        return False

    def step(self, answers):
        lost = ("lost",) + self.at
        raw = self.raw(self.at)
        if self.since == 10000:
            return self.end(("silent",))
        found = None if raw is None or raw[1] != "code" else instruction(self.resolved(raw[0], raw[2]))
        if found is None:
            return self.end(lost)
        called, x, y, d = found
        p, k = self.at
        if called in LONG and self.raw((p, k + 1)) is None:
            return self.end(lost)
        behind = (p, k + 2) if called in LONG else (p, k + 1)
        aim = self.value((p, k + 1)) if called in LONG else ("at", p, k + d) if called in ("ask", "go", "here") else None
        if called == "stop":
            return self.end(("stop",))
        if called in ("ask", "askfar"):
            if not answers:
                return False
            answer = answers.pop(0)
            self.heard.append(("ask", answer))
            self.since = 0
            if answer and as_address(aim) is None:
                return self.end(lost)
            self.at = as_address(aim) if answer else behind
            return True
        return self.other(called, x, y, d, behind, aim, lost)

    def other(self, called, x, y, d, behind, aim, lost):
        following = behind
        if called in ("go", "gofar"):
            following = as_address(aim)
        if called == "jump":
            following = as_address(self.r[x])
        if following is None:
            return self.end(lost)
        if called in ("load", "store"):
            base = as_address(self.r[y])
            place = None if base is None else (base[0], base[1] + d)
            if place is None or self.raw(place) is None or (called == "store" and self.raw(place)[1] == "code"):
                return self.end(lost)
            if called == "load" and self.slot(place) is not None:
                name, wanted = self.slot(place)
                if self.meaning(wanted) is None and wanted not in self.shelf.module(name).weak:
                    return self.end(("unbound", name, wanted))
                self.links[(name, wanted)] = self.meaning(wanted)
            if called == "load":
                self.r[x] = self.value(place)
            else:
                self.stored[place] = self.r[x]
        self.since += 1
        self.at = following
        if called == "take":
            self.takes += 1
            self.r[x] = ("number", (0, ((("in", self.takes), 1),)))
            self.heard.append(("take",))
        elif called == "tell":
            self.heard.append(("tell", sum_of_value(self.r[x])))
        elif called in ("set", "here"):
            self.r[x] = aim
        elif called == "copy":
            self.r[x] = self.r[y]
        elif called == "add":
            self.r[x] = ("number", plus(sum_of_value(self.r[x]), sum_of_value(self.r[y])))
        elif called == "less":
            self.r[x] = ("number", minus(sum_of_value(self.r[x]), sum_of_value(self.r[y])))
        return True

    def state(self):
        return (self.at, tuple(self.r), {address: self.value(address) for address in self.data()})
