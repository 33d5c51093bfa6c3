"""Houses: sources, lines, images and runs under names, made anew when what they are made from is otherwise."""

from loadanywhere.errors import BadDeed, BadKind, BadName, BadText, HeldBack, NoDeed, NoOne, NoPlacing, Seen
from loadanywhere.exchanges import Exchange
from loadanywhere.housekeeping import (
    KINDS, HouseRun, Inside, is_placing_by_names, read_things, sources_in, spots_beside, with_units,
)
from loadanywhere.kinds import is_name, is_row
from loadanywhere.laps import exchanged_lap, first_lap, given_lap, waiting_lap


def do_put_source(house, some):
    house.put_source(some[0], some[1])


def do_put_line(house, some):
    house.put_line(some[0], some[1])


def do_put_image(house, some):
    house.put_image(some[0], some[1], some[2])


def do_start(house, some):
    house.start(some[0], some[1], some[2])


def do_give(house, some):
    house.give(some[0], some[1])


def do_renew(house, some):
    house.renew(some[0], some[1])


def do_drop(house, some):
    house.drop(some[0], some[1])


# The deeds by their methods, each with as many arguments as it has.
DEEDS = {
    "put_source": (2, do_put_source), "put_line": (2, do_put_line), "put_image": (3, do_put_image),
    "start": (3, do_start), "give": (2, do_give), "renew": (2, do_renew), "drop": (2, do_drop),
}


def check_names(names):
    for name in names:
        if not is_name(name):
            raise BadName(name)


def check_kind(kind):
    if not isinstance(kind, str) or kind not in KINDS:
        raise BadKind(kind)


def is_deed(thing):
    if not is_row(thing) or len(thing) == 0 or not isinstance(thing[0], str) or thing[0] not in DEEDS:
        return False
    return len(thing) == 1 + DEEDS[thing[0]][0]


def check_deeds(deeds):
    if not is_row(deeds):
        raise BadDeed(0)
    for index, thing in enumerate(deeds):
        if not is_deed(thing):
            raise BadDeed(index)


class House:
    """A house, live: what it keeps is changed by deeds that can be undone."""

    def __init__(self):
        self.inside = Inside()

    def all_kept(self, kind):
        """The dict of what is kept of a kind."""
        keep = self.inside.keeps[self.inside.standing]
        return dict(keep[kind])

    def one_kept(self, kind, n):
        things = self.all_kept(kind)
        if not is_name(n) or n not in things:
            raise NoOne(kind, n)
        return things[n]

    def put_source(self, n, text):
        check_names([n])
        if not isinstance(text, str):
            raise BadText(text)
        self.inside.change("put_source", "source", n, text)

    def put_line(self, n, things):
        check_names([n])
        self.inside.change("put_line", "line", n, read_things(things))

    def put_image(self, n, line, root):
        check_names([n, line, root])
        self.one_kept("line", line)
        self.inside.change("put_image", "image", n, (line, root))

    def drop(self, kind, n):
        check_kind(kind)
        self.one_kept(kind, n)
        self.inside.change("drop", kind, n, None)

    def start(self, n, image, places):
        check_names([n, image])
        made = self.image(image)
        if not is_placing_by_names(places):
            raise NoPlacing()
        lap = first_lap(made, places)
        self.inside.change("start", "run", n, HouseRun(image, lap.spots, lap, False))

    def give(self, n, answers):
        run = self.one_kept("run", n)
        lap = given_lap(run.lap_here, answers)
        self.inside.change("give", "run", n, run.at_lap(lap, False))
        return lap.run_here.heard[len(run.lap_here.run_here.heard):]

    def run(self, n):
        return list(self.one_kept("run", n).lap_here.run_here.heard)

    def placed(self, n):
        return dict(self.one_kept("run", n).lap_here.spots)

    def is_old(self, n):
        run = self.one_kept("run", n)
        return not run.lap_here.image_here == self.image(run.image_name)

    def renew(self, n, led):
        run = self.one_kept("run", n)
        lap = run.lap_here
        other = self.image(run.image_name)
        exchange = Exchange(lap.image_here, other, led)
        waiting = waiting_lap(lap)
        if waiting.run_here.is_astray():
            raise HeldBack("at")
        why = exchange.why_not(waiting.run_here.free.spot)
        if why is not None:
            raise Seen(why)
        newer = exchanged_lap(lap, other, led, spots_beside(lap, other))
        self.inside.change("renew", "run", n, run.at_lap(newer, True))

    def unit(self, n):
        return self.inside.making_of("source", n, self.one_kept("source", n))

    def linked(self, n):
        things = self.one_kept("line", n)
        units = {}
        for source in sources_in(things):
            units[source] = self.unit(source)
        return self.inside.making_of("line", n, with_units(things, units))

    def image(self, n):
        line, root = self.one_kept("image", n)
        return self.inside.making_of("image", n, (self.linked(line), root))

    def made(self):
        inside = self.inside
        found = inside.newly
        inside.newly = []
        return found

    def needs(self, kind, n):
        check_kind(kind)
        of = self.one_kept(kind, n)
        if kind == "source":
            return []
        if kind == "line":
            return [("source", name) for name in sorted(list({source: True for source in sources_in(of)}))]
        above, name = ("line", of[0]) if kind == "image" else ("image", of.image_name)
        ahead = self.needs(above, name) if name in self.all_kept(above) else []
        return ahead + [(above, name)]

    def tried(self, deeds, work):
        check_deeds(deeds)
        inside = self.inside
        self.inside = inside.copied()
        try:
            for thing in deeds:
                _, action = DEEDS[thing[0]]
                action(self, list(thing[1:]))
            return work(self)
        finally:
            self.inside = inside

    def undo(self):
        inside = self.inside
        if inside.standing == 0:
            raise NoDeed()
        inside.standing -= 1
        return inside.methods[inside.standing]

    def again(self):
        inside = self.inside
        if inside.standing == len(inside.methods):
            raise NoDeed()
        inside.standing += 1
        return inside.methods[inside.standing - 1]

    def count(self):
        return self.inside.standing
