"""Lines by chance, and who comes by the rules, gone by a second way."""

from loadanywhere.units import Unit
from tests.helpers import at, named

NAMES = ["na", "nb", "nc", "nd", "ne"]


def random_member(rng, m, pieces):
    """A member of a few names told and wanted, some of them weakly; pieces are names of pieces still free."""
    told = rng.sample(NAMES, rng.choice([0, 1, 1, 1, 2]))
    wanted = [n for n in NAMES if n not in told and rng.random() < 0.4]
    if rng.random() < 0.9 or not pieces:
        pieces = pieces or [m]
        p = pieces.pop()
    else:
        p = "same"
    words = [named(n, rng.randint(0, 3)) for n in wanted] + [named(n) for n in told if rng.random() < 0.3] + [at(p), 7]
    unit = Unit([(p, "data", words)], {n: (p, rng.randrange(len(words))) for n in told})
    weak = [n for n in unit.told() if rng.random() < 0.12] + [n for n in unit.wanted() if rng.random() < 0.12]
    return (m, unit, weak + weak[:1])


def random_line(rng):
    pieces = ["p" + one + other for one in "zyxwv" for other in "edcba"]
    letters = "abcdefgh"

    def library():
        return [random_member(rng, "m" + letters[index], pieces) for index in range(rng.randint(0, 4))]
    things = []
    for _ in range(rng.randint(0, 6)):
        kind = rng.choice(["member", "member", "library", "library", "group"] if things else ["member"])
        if kind == "member":
            things.append((kind, random_member(rng, "one", pieces)))
        elif kind == "library":
            things.append((kind, library()))
        else:
            things.append((kind, [library() for _ in range(rng.randint(0, 3))]))
    return things


class NaiveLine:
    """Who comes: pairs (seat, name), by the rules."""

    def __init__(self, line):
        self.here = []
        for index, (kind, of) in enumerate(line):
            if kind == "member":
                self.here.append(((index, of[0]), of, None))
            if kind == "library":
                self.library((index,), of)
            if kind == "group":
                many = -1
                while many != len(self.here):
                    many = len(self.here)
                    for j, members in enumerate(of):
                        self.library((index, j), members)

    def strong(self, member, wanted):
        names = member[1].wanted() if wanted else list(member[1].told())
        return {n for n in names if n not in member[2]}

    def names(self):
        wanted = set().union(*[self.strong(member, True) for _, member, _ in self.here])
        told = set().union(*[set(member[1].told()) for _, member, _ in self.here])
        return wanted - told

    def library(self, way, members):
        while True:
            for member in members:
                seat = way + (member[0],)
                found = self.strong(member, False) & self.names()
                if seat not in [other for other, _, _ in self.here] and found:
                    self.here.append((seat, member, min(found)))
                    break
            else:
                return

    def came(self):
        return [(seat, name) for seat, _, name in self.here]

    def whose(self):
        """The dict, or the arguments of Twice."""
        every = sorted(set().union(*[set(member[1].told()) for _, member, _ in self.here]))
        found = {}
        for n in every:
            strong = [seat for seat, member, _ in self.here if n in self.strong(member, False)]
            if len(strong) > 1:
                return (n, strong[0], strong[1])
            found[n] = (strong or [seat for seat, member, _ in self.here if n in member[1].told()])[0]
        return found
