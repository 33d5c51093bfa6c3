"""[28], [29]: modules, shelves, beginnings."""

import itertools
import random
import unittest

from loadanywhere.errors import BadModule, BadShelf, NoModule
from loadanywhere.modules import Module, Shelf, beginnings, group_of, is_beginning
from loadanywhere.units import Unit
from tests.helpers import Raising, any_objects, at, named


def unit():
    return Unit([("p", "code", [named("z"), named("w", 1)]), ("q", "data", [named("l"), named("s"), named("l"), named("z")])],
                {"told": ("p", 0)})


class Modules(unittest.TestCase, Raising):
    def test_what_it_tells(self):
        one = Module("m", unit(), ["n", "m"], ["w", "l"], ["s", "l"])
        self.assertEqual((one.name, one.content, one.required, one.weak, one.late),
                         ("m", unit(), ("n", "m"), ("l", "w"), ("l", "s")))
        one = Module(unit=unit(), name="m")
        self.assertEqual((one.required, one.weak, one.late), ((), (), ()))
        self.assertEqual(Module(late=("l",), weak=("z",), needs=("n",), unit=unit(), name="m").late, ("l",))

    def test_changed_behind(self):
        needs, weak, late = ["n"], ["w"], ["s"]
        one = Module("m", unit(), needs, weak, late)
        needs.clear()
        weak.clear()
        late.clear()
        self.assertEqual((one.required, one.weak, one.late), (("n",), ("w",), ("s",)))

    def test_bad_modules_in_order(self):
        for thing in any_objects():
            if thing != "a":
                self.assert_raises_with(BadModule, {"part": "name"}, Module, thing, None, None, None, None)
            if not isinstance(thing, Unit):
                self.assert_raises_with(BadModule, {"part": "unit"}, Module, "m", thing, None, None, None)
            if thing not in ([], ()):
                self.assert_raises_with(BadModule, {"part": "needs"}, Module, "m", unit(), thing, None, None)
                self.assert_raises_with(BadModule, {"part": "weak"}, Module, "m", unit(), [], thing, None)
                self.assert_raises_with(BadModule, {"part": "late"}, Module, "m", unit(), [], [], thing)
            self.assert_raises_with(BadModule, {"part": "needs"}, Module, "m", unit(), ["n", thing, thing], 1, 1)
            self.assert_raises_with(BadModule, {"part": "weak"}, Module, "m", unit(), ["n"], ["w", thing], 1)
            self.assert_raises_with(BadModule, {"part": "late"}, Module, "m", unit(), ["n"], ["w"], ["l", thing])
        for names in (["l", "l"], ["told"], ["other"], ["p"]):
            self.assert_raises_with(BadModule, {"part": "weak"}, Module, "m", unit(), (), names, None)
            self.assert_raises_with(BadModule, {"part": "late"}, Module, "m", unit(), (), (), names)

    def test_slots_alone(self):
        for word in (named("s", 1), (0, [(("name", "s"), 2)]), (0, [(("name", "s"), -1)]),
                     (0, [(("name", "s"), 1), (("name", "l"), 1)]), (0, [(("name", "s"), 1), (("piece", "q"), 1)])):
            one = Unit([("q", "data", [named("s"), word, named("l")])])
            self.assert_raises_with(BadModule, {"part": "late"}, Module, "m", one, (), (), ["s"])
        one = Unit([("q", "data", [named("s")]), ("p", "code", [named("s")])])
        self.assert_raises_with(BadModule, {"part": "late"}, Module, "m", one, (), (), ["s"])
        one = Unit([("q", "data", [named("s"), 0, named("s")]), ("s", "code", [at("s")])])
        self.assertEqual(Module("m", one, (), (), ["s"]).late, ("s",))
        self.assert_raises_with(BadModule, {"part": "late"}, Module, "m", unit(), (), (), ["l", "z"])

    def test_equality(self):
        one = Module("m", unit(), ["n", "o"], ["w", "l"], ["s", "l"])
        self.assertTrue(one == Module("m", unit(), ("n", "o"), ("l", "w"), ("l", "s")))
        for other in (Module("n", unit(), ["n", "o"], ["w", "l"], ["s", "l"]),
                      Module("m", unit(), ["o", "n"], ["w", "l"], ["s", "l"]),
                      Module("m", unit(), ["n", "o"], ["w"], ["s", "l"]),
                      Module("m", unit(), ["n", "o"], ["w", "l"], ["s"]),
                      Module("m", Unit(unit().pieces()), ["n", "o"], ["w", "l"], ["s", "l"])):
            self.assertTrue(one != other)
        for thing in any_objects():
            self.assertFalse(one == thing)


def shelf_of(needs):
    """A shelf of modules that need one another so; each has a piece of its own name."""
    return Shelf([Module(name, Unit([(name, "data", [0])]), list(those)) for name, those in needs.items()])


class Shelves(unittest.TestCase, Raising):
    def test_what_it_tells(self):
        shelf = shelf_of({"b": "a", "a": "", "c": "ccb"[1:]})
        self.assertEqual(shelf.names(), ["b", "a", "c"])
        self.assertEqual(shelf.module("c").required, ("c", "b"))
        self.assertEqual(shelf.module(name="a").name, "a")
        shelf.names().clear()
        self.assertEqual(shelf.names(), ["b", "a", "c"])
        self.assertEqual(Shelf(modules=()).names(), [])

    def test_bad_shelves(self):
        one = Module("m", Unit([("a", "data", [])]), ["gone"])
        for thing in any_objects():
            if not isinstance(thing, (list, tuple)):
                self.assert_raises_with(BadShelf, {"index": 0}, Shelf, thing)
            if not isinstance(thing, Module):
                self.assert_raises_with(BadShelf, {"index": 1}, Shelf, [one, thing, None])
        self.assert_raises_with(BadShelf, {"index": 1}, Shelf, [one, Module("m", Unit([]))])
        self.assert_raises_with(BadShelf, {"index": 2}, Shelf, [
            one, Module("n", Unit([])), Module("o", Unit([("b", "data", []), ("a", "code", [])])), None])

    def test_no_module(self):
        shelf = [Module("m", Unit([]), ["n", "y", "x"]), Module("n", Unit([]), ["z"])]
        self.assert_raises_with(NoModule, {"name": "y"}, Shelf, shelf)
        shelf = shelf_of({"b": "", "c": "b"})
        for thing in any_objects() + ["z"]:
            self.assert_raises_with(NoModule, {"name": thing}, shelf.module, thing)
            self.assert_raises_with(NoModule, {"name": thing}, group_of, shelf, thing)
            self.assert_raises_with(NoModule, {"name": thing}, beginnings, shelf, thing)
            self.assert_raises_with(NoModule, {"name": thing}, is_beginning, shelf, thing, thing)

    def test_equality(self):
        shelf = shelf_of({"b": "", "c": "b"})
        self.assertTrue(shelf == shelf_of({"b": "", "c": "b"}))
        self.assertFalse(shelf != shelf_of({"b": "", "c": "b"}))
        self.assertFalse(shelf == shelf_of({"c": "b", "b": ""}))
        self.assertFalse(shelf == shelf_of({"b": "", "c": ""}))
        for thing in any_objects() + [[shelf.module("b")]]:
            self.assertFalse(shelf == thing)


class Groups(unittest.TestCase):
    def test_in_turn(self):
        shelf = shelf_of({"a": "cb", "b": "d", "c": "ea", "d": "", "e": "d", "f": "a"})
        self.assertEqual(group_of(shelf, "a"), ["a", "c", "b", "e", "d"])
        self.assertEqual(group_of(name="f", shelf=shelf), ["f", "a", "c", "b", "e", "d"])
        self.assertEqual(group_of(shelf, "d"), ["d"])


class Beginnings(unittest.TestCase):
    def test_rings(self):
        shelf = shelf_of({"a": "bc", "b": "d", "c": "a", "d": "d", "e": ""})
        self.assertEqual(beginnings(shelf, "a"), [("d",), ("b",), ("a", "c")])
        self.assertEqual(beginnings(shelf, "d"), [("d",)])
        self.assertEqual(beginnings(name="e", shelf=shelf), [("e",)])
        shelf = shelf_of({"a": "bcd", "b": "", "c": "", "d": ""})
        self.assertEqual(beginnings(shelf, "a"), [("d",), ("c",), ("b",), ("a",)])
        shelf = shelf_of({"a": "bc", "b": "d", "c": "e", "d": "", "e": ""})
        self.assertEqual(beginnings(shelf, "a"), [("e",), ("d",), ("c",), ("b",), ("a",)])
        shelf = shelf_of({"a": "bc", "b": "c", "c": "b"})
        self.assertEqual(beginnings(shelf, "c"), [("c", "b")])

    def test_orders(self):
        shelf = shelf_of({"a": "bc", "b": "d", "c": "a", "d": "d", "e": ""})
        for right in ("dbac", "dbca"):
            self.assertIs(is_beginning(shelf, "a", list(right)), True)
            self.assertIs(is_beginning(thing=tuple(right), name="a", shelf=shelf), True)
        for wrong in ("dabc", "bdac", "dbacc", "dba", "dbae", "", "dbaca"):
            self.assertIs(is_beginning(shelf, "a", list(wrong)), False)
        self.assertFalse(is_beginning(shelf, "a", "dbac"))
        for thing in any_objects():
            self.assertIs(is_beginning(shelf, "e", thing), False)
            self.assertIs(is_beginning(shelf, "a", ["d", "b", "a", thing]), False)
        # A module stands behind what it needs by way of others of its ring.
        shelf = shelf_of({"a": "b", "b": "ac", "c": ""})
        self.assertFalse(is_beginning(shelf, "a", ["a", "c", "b"]))
        self.assertTrue(is_beginning(shelf, "a", ["c", "a", "b"]))

    def test_beside_all_orders(self):
        rng = random.Random(4)
        for _ in range(150):
            names = "abcde"[:rng.randint(1, 5)]
            shelf = shelf_of({p: rng.sample(names, rng.randint(0, min(2, len(names)))) for p in names})
            group = group_of(shelf, "a")
            reach = {p: set(shelf.module(p).required) for p in names}
            for _ in names:
                reach = {p: reach[p].union(*[reach[q] for q in reach[p]]) for p in names}
            rings = beginnings(shelf, "a")
            flat = [p for ring in rings for p in ring]
            self.assertEqual(sorted(flat), sorted(group))
            self.assertTrue(is_beginning(shelf, "a", flat))
            for ring in rings:
                self.assertEqual(list(ring), sorted(ring, key=group.index))
                for p, q in itertools.combinations(flat, 2):
                    self.assertEqual(p in ring and q in ring, p in ring and q in reach[p] and p in reach[q])
            for order in itertools.permutations(group):
                right = all(q in order[:place] or p in reach[q] for place, p in enumerate(order) for q in reach[p])
                self.assertEqual(is_beginning(shelf, "a", order), right)
            # At each place the ring that may come next whose first module stands last.
            left = sorted(rings, key=lambda ring: group.index(ring[0]))
            for ring in rings:
                may = [one for one in left
                       if all(q in one or not any(q in other for other in left) for q in reach[one[0]])]
                self.assertEqual(ring, may[-1])
                left.remove(ring)
