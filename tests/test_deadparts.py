"""[86], [87]: pieces to which nothing leads, pieces that are alike."""

import unittest

from loadanywhere.assembling import assembled
from loadanywhere.deadparts import classes, folded, reached, struck, way_to
from loadanywhere.errors import NoName, NoPiece
from loadanywhere.freetold import free_events
from loadanywhere.plainruns import played
from loadanywhere.units import Unit, bound, image_of
from loadanywhere.walks import alike, lost_row
from loadanywhere.words import coded
from tests.helpers import Raising, any_objects, at, named
from tests.naive import naive_free, random_image, seeded


def lines(*rows):
    return "\n".join(rows)


def random_unit(rng):
    """Pieces with a few words that lead somewhere, by places and by told names."""
    names = ["pa", "pb", "pc", "pd", "pe", "pf"][:rng.randint(1, 6)]
    told = {n: (rng.choice(names), rng.randint(0, 1)) for n in ["na", "nb", "nc"] if rng.random() < 0.7}
    pieces = []
    for p in names:
        words = []
        for _ in range(rng.randint(2, 4)):
            parts = [(("piece", rng.choice(names)), rng.choice([1, -1, 2048])) for _ in range(rng.choice([0, 0, 0, 1, 2]))]
            parts += [(("name", rng.choice(["na", "nb", "nc", "wa"])), rng.choice([1, -1])) for _ in range(rng.choice([0, 0, 1]))]
            words.append((rng.randint(0, 3), parts))
        pieces.append((p, rng.choice(["code", "data"]), words))
    return Unit(pieces, told)


def leads(unit):
    """The pairs (address, piece) to which words lead."""
    told = unit.told()
    return [((p, k), of if kind == "piece" else told[of][0]) for p, _, words in unit.pieces()
            for k, word in enumerate(words) for (kind, of), _ in word[1] if kind == "piece" or of in told]


def distances(unit, roots):
    found = {unit.told()[n][0]: 0 for n in roots}
    for many in range(1, 10):
        for (p, _), q in leads(unit):
            if found.get(p, many) < many:
                found.setdefault(q, many)
    return found


class Dead(unittest.TestCase, Raising):
    def setUp(self):
        self.unit = assembled(lines(
            "code main", "start:", "set r1 tab", "callfar sub", "stop", "data tab", "word 1 wanted-inner",
            "code sub", "jump r7", "code dead", "dl:", "goany main", "word inner", "data cell", "word 0", "inner:",
            "word 3", "code last", "told dl", "told start", "told inner"))
        self.named = Unit([("main", "code", [named("sub", 1), at("main")]), ("tab", "data", [5]),
                           ("far", "data", [(0, [(("name", "sub"), 1), (("piece", "tab"), -1)])])],
                          {"sub": ("tab", 0), "go": ("main", 1), "f": ("far", 0)})

    def test_reached(self):
        self.assertEqual(reached(self.unit, ["start"]), ["main", "tab", "sub", "cell"])
        self.assertEqual(reached(roots=("inner",), unit=self.unit), ["cell"])
        self.assertEqual(reached(self.unit, ["inner", "dl", "inner"]), ["main", "tab", "sub", "dead", "cell"])
        self.assertEqual(reached(self.unit, []), [])
        self.assertEqual(reached(self.named, ["go"]), ["main", "tab"])
        # A word leads by what stands in it, even where this comes to nothing.
        self.assertEqual(reached(self.named, ["f"]), ["tab", "far"])

    def test_struck(self):
        unit = struck(unit=self.unit, roots=["start"])
        self.assertEqual(unit.pieces(), [piece for piece in self.unit.pieces() if piece[0] not in ("dead", "last")])
        self.assertEqual(list(unit.told().items()), [("start", ("main", 0)), ("inner", ("cell", 1))])
        self.assertEqual(unit.wanted(), ["wanted"])
        self.assertEqual(struck(self.named, ["go"]).pieces(), self.named.pieces()[:2])
        self.assertEqual(list(struck(self.named, ["go"]).told()), ["sub", "go"])
        self.assertEqual(struck(self.unit, []), Unit([]))

    def test_ways(self):
        self.assertEqual(way_to(self.unit, ["start"], "main"), [])
        self.assertEqual(way_to(self.unit, ["start"], "cell"), [("main", 1), ("tab", 1)])
        self.assertEqual(way_to(p="sub", roots=["start"], unit=self.unit), [("main", 3)])
        self.assertIsNone(way_to(self.unit, ["start"], "dead"))
        self.assertIsNone(way_to(self.unit, [], "main"))
        self.assertEqual(way_to(self.named, ["go"], "tab"), [("main", 0)])

    def test_by_chance(self):
        rng = seeded(430)
        long = 0
        for _ in range(300):
            unit = random_unit(rng)
            roots = rng.sample(list(unit.told()), rng.randint(0, len(unit.told())))
            right = distances(unit, roots)
            names = [p for p, _, _ in unit.pieces()]
            self.assertEqual(reached(unit, roots), [p for p in names if p in right])
            kept = struck(unit, roots)
            self.assertEqual(kept.pieces(), [piece for piece in unit.pieces() if piece[0] in right])
            self.assertEqual(list(kept.told().items()), [pair for pair in unit.told().items() if pair[1][0] in right])
            for p in names:
                way = way_to(unit, roots, p)
                if p not in right:
                    self.assertIsNone(way)
                    continue
                self.assertEqual(len(way), right[p])
                long += len(way) > 1
                spots = [q for q, _ in way] + [p]
                self.assertTrue(all((address, q) in leads(unit) for address, q in zip(way, spots[1:])))
                self.assertEqual(right[spots[0]], 0)
        self.assertGreater(long, 60)

    def test_errors(self):
        for call in (reached, struck, lambda unit, roots: way_to(unit, roots, None)):
            for thing in any_objects():
                if thing.__class__ not in (list, tuple):
                    self.assert_raises_with(NoName, {"name": None}, call, self.unit, thing)
                self.assert_raises_with(NoName, {"name": thing}, call, self.unit, ["start", thing, None])
            for name in ("main", "wanted", "startt"):
                self.assert_raises_with(NoName, {"name": name}, call, self.unit, ("dl", name))
        for thing in any_objects() + ["start", "wanted"]:
            self.assert_raises_with(NoPiece, {"p": thing}, way_to, self.unit, ["start"], thing)

    def test_free_runs_stay_in_what_is_reached(self):
        rng = seeded(431)
        for _ in range(100):
            image = random_image(rng)
            unit = Unit(image.pieces(), {"root": image.first})
            names = reached(unit, ["root"])
            part = image_of(struck(unit, ["root"]), "root")
            for _ in range(4):
                answers = [rng.random() < 0.5 for _ in range(5)]
                seen = []
                naive_free(image, answers, lambda at_, ins, regs, data, given, seen=seen: seen.append(at_[0]), 300)
                self.assertTrue(set(seen) <= set(names))
                self.assertEqual(free_events(part, answers), free_events(image, answers))


def naive_heaps(unit):
    """The heaps, round by round, as sets of names."""
    pieces = {p: (kind, words) for p, kind, words in bound(unit).pieces()}
    heap = {p: "code" if kind == "code" else p for p, (kind, _) in pieces.items()}
    while True:
        seen = {}
        for p, (_, words) in pieces.items():
            form = []
            for number, parts in words:
                sums = {}
                for (kind, of), many in parts:
                    key = (kind, heap[of] if kind == "piece" else of)
                    sums[key] = sums.get(key, 0) + many
                form.append((number, tuple(sorted((repr(key), many) for key, many in sums.items() if many))))
            seen[p] = (heap[p], tuple(form))
        numbers = {form: str(number) for number, form in enumerate(dict.fromkeys(seen.values()))}
        newer = {p: numbers[form] for p, form in seen.items()}
        if len(set(newer.values())) == len(set(heap.values())):
            return newer
        heap = newer


TWINS = lines(
    "code main", "start:", "take r1", "callfar one", "tell r1", "callfar two", "tell r1", "goany start",
    "code one", "add r1 r1", "set r2 helpa", "jump r2", "code helpa", "jump r7", "code two", "add r1 r1", "set r2 helpb",
    "jump r2", "data tab", "word 5", "data tac", "word 5", "code helpb", "lb:", "jump r7", "code apart", "add r1 r1",
    "set r2 tab", "jump r2", "told lb", "told start")


class Alike(unittest.TestCase, Raising):
    def test_by_hand(self):
        unit = assembled(TWINS)
        self.assertEqual(classes(unit=unit), [["one", "two"], ["helpa", "helpb"]])
        found = folded(unit=unit)
        self.assertEqual([p for p, _, _ in found.pieces()], ["main", "one", "helpa", "tab", "tac", "apart"])
        self.assertEqual(list(found.told().items()), [("lb", ("helpa", 0)), ("start", ("main", 0))])
        self.assertEqual(found.word("main", 5), at("one"))
        self.assertEqual(found.word("main", 2), at("one"))
        self.assertEqual(classes(found), [])
        self.assertEqual(folded(found), found)
        one, other = image_of(unit, "start"), image_of(found, "start")
        self.assertTrue(alike(one, other))
        self.assertEqual(played(one, {p: 100 * k for k, (p, _, _) in enumerate(one.pieces())}, [3, 4]),
                         played(other, {p: 50 * k for k, (p, _, _) in enumerate(other.pieces())}, [3, 4]))

    def test_pieces_that_call_one_another(self):
        def ring(*names):
            return [(p, "code", [coded(15), at(q), coded(0)]) for p, q in zip(names, names[1:] + names[:1])]
        self.assertEqual(classes(Unit(ring("a", "b", "c"))), [["a", "b", "c"]])
        self.assertEqual(folded(Unit(ring("a", "b", "c"))).pieces(), [("a", "code", ((15, ()), at("a"), (0, ())))])
        self.assertEqual(classes(Unit(ring("a", "b") + ring("c"))), [["a", "b", "c"]])
        # One place otherwise parts all that lead there, round by round.
        chain = ring("a", "b", "c", "d")
        chain[3] = ("d", "code", [coded(15), at("d", 1), coded(0)])
        self.assertEqual(classes(Unit(chain)), [])
        self.assertEqual(classes(Unit([])), [])
        # In whatever order the names of their pieces stand.
        unit = Unit([("m", "code", [(0, [(("piece", "aa"), 1), (("piece", "dd"), 1)])]), ("dd", "data", [1]),
                     ("n", "code", [(0, [(("piece", "zz"), 1), (("piece", "dd"), 1)])]), ("aa", "code", [5]),
                     ("zz", "code", [5])])
        self.assertEqual(classes(unit), [["m", "n"], ["aa", "zz"]])
        self.assertEqual(classes(Unit([("a", "code", []), ("b", "data", []), ("c", "code", [])])), [["a", "c"]])

    def test_multiples_of_a_heap_are_added_up(self):
        def word(*parts):
            return (0, [(("piece", p), many) for p, many in parts])
        unit = Unit([("a", "code", [word(("a", 2)), word(("a", 1), ("b", -1))]),
                     ("b", "code", [word(("a", 1), ("b", 1)), 0]), ("c", "code", [word(("a", 1), ("c", 1)), 1])])
        self.assertEqual(classes(unit), [["a", "b"]])
        self.assertEqual(folded(unit).pieces(), [("a", "code", (word_of(("a", 2)), (0, ()))),
                                                 ("c", "code", (word_of(("a", 1), ("c", 1)), (1, ())))])

    def test_names(self):
        # Told names are put in to see, but stay as they stand.
        unit = Unit([("a", "code", [named("n"), named("w")]), ("b", "code", [at("b"), named("w")]),
                     ("c", "code", [at("c"), named("v")]), ("d", "data", [named("n"), named("m")])],
                    {"n": ("a", 0), "m": ("b", 1)})
        self.assertEqual(classes(unit), [["a", "b"]])
        self.assertEqual(folded(unit).pieces(), [("a", "code", (named("n"), named("w"))), ("c", "code", (at("c"), named("v"))),
                                                 ("d", "data", (named("n"), named("m")))])
        self.assertEqual(list(folded(unit).told().items()), [("n", ("a", 0)), ("m", ("a", 1))])

    def test_by_chance(self):
        rng = seeded(432)
        some = 0
        for _ in range(400):
            unit = small_unit(rng)
            heap = naive_heaps(unit)
            names = [p for p, _, _ in unit.pieces()]
            heaps = [[q for q in names if heap[q] == heap[p]] for p in names]
            right = [lot for index, lot in enumerate(heaps) if len(lot) > 1 and lot not in heaps[:index]]
            self.assertEqual(classes(unit), right)
            some += len(right) > 0
            found = folded(unit)
            self.assertEqual([p for p, _, _ in found.pieces()], [p for p, lot in zip(names, heaps) if lot[0] == p])
            self.assertEqual(classes(found), [])
            self.assertEqual(found.wanted(), unit.wanted())
        self.assertGreater(some, 80)

    def test_the_same_is_done(self):
        rng = seeded(433)
        compared = 0
        for _ in range(90):
            unit = twins(rng)
            image = image_of(unit, "root")
            if lost_row(image) is not None or not classes(unit):
                continue
            names = [p for lot in classes(unit) for p in lot]
            other = image_of(folded(unit), "root")
            shown = False
            for _ in range(6):
                answers = [rng.random() < 0.5 for _ in range(6)]
                told = [event[1] for event in free_events(image, answers) if event[0] == "tell"]
                shown = shown or any(of in names for one in told for (_, of), _ in one[1])
                if not shown:
                    self.assertEqual(free_events(image, answers), free_events(other, answers))
            compared += not shown
        self.assertGreater(compared, 7)


def word_of(*parts):
    return (0, tuple((("piece", p), many) for p, many in parts))


def small_unit(rng):
    """Few unlike words, so that pieces are often alike."""
    names = ["pa", "pb", "pc", "pd", "pe"][:rng.randint(1, 5)]
    told = {"na": (rng.choice(names), 0)}
    pieces = []
    for p in names:
        words = [rng.choice([0, at(rng.choice(names)), at(rng.choice(names)), named("na"), named("wa")])
                 for _ in range(rng.choice([1, 1, 2]))]
        pieces.append((p, "code" if rng.random() < 0.8 else "data", words))
    return Unit(pieces, told)


def twins(rng):
    """A main piece that calls pieces with the same few rows."""
    rows = ["add r1 r2", "less r1 r3", "ask {p}", "tell r1", "copy r2 r1", "take r2", "callfar {q}", "set r4 {q}"]
    body = [rng.choice(rows) for _ in range(rng.randint(1, 3))]
    names = ["sa", "sb", "sc", "sd"][:rng.randint(2, 4)]
    text = ["code main", "root:", "take r1"]
    for p in names:
        text += [f"set r6 {p}", "copy r5 r7", "callfar " + p, "ask root"]
    text += ["stop"]
    for p in names:
        text += ["code " + p] + [row.format(p=p, q=rng.choice(names)) for row in body] + ["jump r7"]
    return assembled("\n".join(text + ["told root"]))


if __name__ == "__main__":
    unittest.main()
