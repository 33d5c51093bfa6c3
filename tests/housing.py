"""A house kept a second way: all is made anew from what is kept, and runs are run again from their start."""

import copy

from loadanywhere.assembling import assembled
from loadanywhere.deadparts import struck
from loadanywhere.errors import (
    BadKind, BadName, BadText, BadThings, Ended, HeldBack, NoDeed, NoOne, NoPlacing, Seen, WordError,
)
from loadanywhere.exchanges import Exchange
from loadanywhere.lineup import linked
from loadanywhere.runners import Runner
from loadanywhere.units import image_of
from tests.helpers import as_tuples

KINDS = ("source", "line", "image", "run")


def is_name(thing):
    return isinstance(thing, str) and 1 <= len(thing) <= 8 and all("a" <= sign <= "z" for sign in thing)


def is_integer(thing):
    return thing.__class__ is int


def members_of(things):
    for kind, of in things:
        if kind == "member":
            yield of
        for library in [of] if kind == "library" else of if kind == "group" else []:
            yield from library


def is_thing(thing):
    def is_member(one):
        return isinstance(one, (list, tuple)) and len(one) == 2 and is_name(one[0]) \
            and isinstance(one[1], (list, tuple)) and all(is_name(name) for name in one[1])

    def is_library(one):
        return isinstance(one, (list, tuple)) and all(is_member(other) for other in one) \
            and len({other[0] for other in one}) == len(one)
    if not isinstance(thing, (list, tuple)) or len(thing) != 2:
        return False
    if thing[0] == "group":
        return isinstance(thing[1], (list, tuple)) and all(is_library(one) for one in thing[1])
    return thing[0] == "member" and is_member(thing[1]) or thing[0] == "library" and is_library(thing[1])


class NaiveHouse:
    def __init__(self):
        self.keeps = {kind: {} for kind in KINDS}
        self.elder, self.newer = [], []
        self.bases, self.news = {}, []

    def names(self, *names):
        for name in names:
            if not is_name(name):
                raise BadName(name)

    def there(self, kind, n):
        if not is_name(n) or n not in self.keeps[kind]:
            raise NoOne(kind, n)
        return self.keeps[kind][n]

    def do(self, method, kind, n, thing):
        self.elder.append((method, copy.copy({key: dict(of) for key, of in self.keeps.items()})))
        self.newer = []
        self.keeps = {key: dict(of) for key, of in self.keeps.items()}
        if thing is None:
            del self.keeps[kind][n]
        else:
            self.keeps[kind][n] = thing

    def put_source(self, n, text):
        self.names(n)
        if not isinstance(text, str):
            raise BadText(text)
        self.do("put_source", "source", n, text)

    def put_line(self, n, things):
        self.names(n)
        if not isinstance(things, (list, tuple)):
            raise BadThings(0)
        for index, thing in enumerate(things):
            if not is_thing(thing):
                raise BadThings(index)
        self.do("put_line", "line", n, as_tuples(things))

    def put_image(self, n, line, root):
        self.names(n, line, root)
        self.there("line", line)
        self.do("put_image", "image", n, (line, root))

    def drop(self, kind, n):
        if kind not in KINDS:
            raise BadKind(kind)
        self.there(kind, n)
        self.do("drop", kind, n, None)

    def start(self, n, image, places):
        self.names(n, image)
        made = self.image(image)
        if not isinstance(places, dict) or not all(is_name(p) and is_integer(k) for p, k in places.items()):
            raise NoPlacing()
        Runner(made, places)
        self.do("start", "run", n, (image, made, dict(places), ()))

    def runner(self, n):
        """The run gone again from its start, and the image that it has now."""
        _, made, places, deeds = self.there("run", n)
        runner = Runner(made, places)
        for deed in deeds:
            if deed[0] == "give":
                runner.give(deed[1])
            else:
                made = deed[1]
                runner.exchange(*deed[1:])
        return runner, made

    def with_deed(self, n, deed):
        name, made, places, deeds = self.keeps["run"][n]
        return (name, made, places, deeds + (deed,))

    def give(self, n, answers):
        runner, _ = self.runner(n)
        found = runner.give(answers)
        self.do("give", "run", n, self.with_deed(n, ("give", list(answers))))
        return found

    def run(self, n):
        return self.runner(n)[0].events()

    def placed(self, n):
        return self.runner(n)[0].placing()

    def is_old(self, n):
        _, made = self.runner(n)
        return made != self.image(self.keeps["run"][n][0])

    def renew(self, n, led):
        runner, made = self.runner(n)
        other = self.image(self.keeps["run"][n][0])
        exchange = Exchange(made, other, led)
        ahead = copy.deepcopy(runner)
        spot = self.waits_at(ahead, made)
        why = exchange.why_not(spot)
        if why is not None:
            raise Seen(why)
        places = {}
        words = set(runner.words())
        for p, kind, sums in other.pieces():
            if kind == "code":
                place = 1000000
                while any(place + k in words for k in range(len(sums))):
                    place += 1000
                places[p] = place
                words |= {place + k for k in range(len(sums))}
        runner.exchange(other, led, places)
        self.do("renew", "run", n, self.with_deed(n, ("exchange", other, led, places)))

    def waits_at(self, runner, made):
        """The address at which a run waits; what holds it back is told by exchanging it for itself."""
        runner.give([])
        try:
            runner.exchange(made, {}, {p: 10 ** 9 + 10 ** 6 * index for index, (p, _, _) in enumerate(made.pieces())})
        except Ended:
            raise
        except HeldBack:
            pass
        for p, _, words in made.pieces():
            if 0 <= runner.at() - runner.placing()[p] < len(words):
                return (p, runner.at() - runner.placing()[p])
        raise AssertionError

    def made_of(self, kind, n, basis, work):
        if (kind, n) not in self.bases or self.bases[(kind, n)] != basis:
            self.bases[(kind, n)] = basis
            self.news.append((kind, n))
        return work()

    def unit(self, n):
        text = self.there("source", n)
        return self.made_of("source", n, text, lambda: assembled(text))

    def linked(self, n):
        things = self.there("line", n)
        units = [self.unit(s) for s, _ in members_of(things)]
        left = list(units)

        def with_unit(one):
            return (one[0], left.pop(0), one[1])
        line = []
        for kind, of in things:
            if kind == "member":
                line.append((kind, with_unit(of)))
            elif kind == "library":
                line.append((kind, [with_unit(one) for one in of]))
            else:
                line.append((kind, [[with_unit(one) for one in library] for library in of]))
        return self.made_of("line", n, (things, units), lambda: linked(line))

    def image(self, n):
        line, root = self.there("image", n)
        unit = self.linked(line)
        return self.made_of("image", n, (unit, root), lambda: image_of(struck(unit, [root]), root))

    def made(self):
        found, self.news = self.news, []
        return found

    def needs(self, kind, n):
        if kind not in KINDS:
            raise BadKind(kind)
        of = self.there(kind, n)
        if kind == "line":
            return [("source", s) for s in sorted({s for s, _ in members_of(of)})]
        if kind == "image":
            return (self.needs("line", of[0]) if of[0] in self.keeps["line"] else []) + [("line", of[0])]
        if kind == "run":
            return (self.needs("image", of[0]) if of[0] in self.keeps["image"] else []) + [("image", of[0])]
        return []

    def undo(self):
        if not self.elder:
            raise NoDeed()
        method, keeps = self.elder.pop()
        self.newer.append((method, self.keeps))
        self.keeps = keeps
        return method

    def again(self):
        if not self.newer:
            raise NoDeed()
        method, keeps = self.newer.pop()
        self.elder.append((method, self.keeps))
        self.keeps = keeps
        return method

    def count(self):
        return len(self.elder)

    def tried(self, deeds, work):
        held = (self.keeps, list(self.elder), list(self.newer), dict(self.bases), list(self.news))
        try:
            for name, *some in deeds:
                getattr(self, name)(*some)
            return work(self)
        finally:
            self.keeps, self.elder, self.newer, self.bases, self.news = held


def outcome(call, *some):
    """What a call returns, or the error that it raises with its arguments."""
    try:
        return ("told", call(*some))
    except WordError as error:
        return (error.__class__.__name__, vars(error))


def lines(*rows):
    return "\n".join(rows)


MAIN = lines("code main", "start:", "set r5 tab", "la:", "take r1", "callfar work", "tell r1", "ask la", "stop", "data tab",
             "word 3 out", "told start")

# Texts by the names of the pieces that they bring; some are wrong.
TEXTS = (
    MAIN, MAIN.replace("tell r1", "tell r1\ntell r1"), MAIN.replace("take r1", "copy r0 r0\ntake r1"),
    MAIN.replace("word 3 out", "word 3"), MAIN + "\ntold tab",
    lines("code sub", "work:", "add r1 r1", "jump r7", "told work"),
    lines("code sub", "work:", "copy r2 r1", "add r1 r2", "jump r7", "told work"),
    lines("code sub", "work:", "load r2 r5 0", "add r1 r2", "jump r7", "told work"),
    lines("code cell", "out:", "stop", "told out"), lines("data cell", "out:", "word 9 work", "told out"),
    lines("code dead", "out:", "goany work", "told out", "told out"), "", "take r1", "code",
    lines("code main", "start:", "jump r1", "told start"), lines("data tab", "start:", "word 5", "told start"),
)

LINES = (
    [("member", ("a", [])), ("library", [("b", []), ("c", [])])],
    [("member", ("a", ["start"])), ("group", [[("b", [])], [("c", [])]])],
    [("member", ("a", [])), ("member", ("b", [])), ("member", ("c", []))],
    [("library", [("c", [])]), ("member", ("a", ["out"])), ("library", [("b", []), ("d", [])])],
    [("member", ("a", ["start"])), ("group", [[("b", [])], [("c", ["out"])]])],
    [("member", ("a", [])), ("member", ("a", []))], [("member", ("b", ["nowhere"]))], [], [("group", [])],
    [("member", ("a", ["work", "out"]))],
)


def random_deed(rng):
    """A call of a method with arguments that mostly fit."""
    source, line, image, run = (rng.choice("aabbccd"), rng.choice(["la", "la", "la", "lb"]),
                                rng.choice(["ia", "ia", "ia", "ib"]), rng.choice(["ra", "ra", "rb"]))
    kind = rng.choice(["put_source"] * 4 + ["put_line"] * 3 + ["put_image"] * 3 + ["start"] * 5 + ["give"] * 6
                      + ["renew"] * 4 + ["drop"])
    if kind == "put_source":
        return [kind, source, rng.choice({"a": TEXTS[:5], "b": TEXTS[5:8], "c": TEXTS[8:11], "d": TEXTS}[source])
                if rng.random() < 0.85 else rng.choice(TEXTS)]
    if kind == "put_line":
        return [kind, line, rng.choice(LINES[:3] if rng.random() < 0.6 else LINES)]
    if kind == "put_image":
        return [kind, image, line, rng.choice(["start", "start", "start", "start", "work", "out", "no"])]
    if kind == "start":
        return [kind, run, image, {"main": rng.choice([0, 1000000]), "tab": 100, "sub": rng.choice([50, 50, 101]),
                                   "cell": -20, "dead": 300}]
    if kind == "give":
        return [kind, run, rng.choice([[], [4], [True], [7, True], [5, True, 6], [False], [1, False, 3]])]
    if kind == "renew":
        shift = rng.choice([0, 0, 0, 0, 0, 1])
        led = {("main", k): ("main", min(7, k + shift * (k > 2))) for k in range(8 if rng.random() < 0.9 else 9)}
        led.update({("sub", k): ("sub", 0) for k in range(1)})
        return [kind, run, {key: aim for key, aim in led.items() if rng.random() < 0.98}]
    of = rng.choice(KINDS)
    return [kind, of, {"source": source, "line": line, "image": image, "run": run}[of]]


# Deeds by which a house is begun that can be run.
BEGINNING = (
    ["put_source", "a", TEXTS[0]], ["put_source", "b", TEXTS[5]], ["put_source", "c", TEXTS[9]],
    ["put_line", "la", LINES[0]], ["put_image", "ia", "la", "start"],
    ["start", "ra", "ia", {"main": 0, "tab": 100, "sub": 50, "cell": -20}],
)
