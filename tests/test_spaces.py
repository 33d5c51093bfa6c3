"""[30], [31]: spaces."""

import unittest

from loadanywhere.errors import BadAhead, IsOpen, NoModule, NotBound, NotLate, NotLoaded, NotOpen
from loadanywhere.modules import Module, Shelf
from loadanywhere.spaces import Space
from loadanywhere.units import Unit
from tests.helpers import Raising, any_objects, named
from tests.naive import seeded
from tests.shelves import NaiveProcess, random_shelf, small_shelf


def standing(space):
    return (space.opened(), space.scope(), space.loaded(), space.bound())


def ring_shelf():
    """main wants from ring and pair, late; these two are bound to one another."""
    def unit(p, wanted, told):
        return Unit([(p, "data", [named(one) for one in wanted] + [0])], {told: (p, 0)})
    return Shelf([
        Module("main", unit("a", ["x"], "m"), [], [], ["x"]),
        Module("ring", unit("b", ["y"], "x"), ["pair"]),
        Module("pair", unit("c", ["x"], "y"), ["ring"]),
        Module("extra", unit("e", ["m"], "z"), ["main"]),
    ])


class Opens(unittest.TestCase, Raising):
    def test_at_first(self):
        space = Space(small_shelf(), "main")
        self.assertEqual(standing(space), (["main"], ["main", "lib"], ["main", "lib"], {}))

    def test_ahead_and_behind(self):
        space = Space(small_shelf(), "main")
        space.bring("other")
        self.assertEqual(standing(space)[:3], (["main", "other"], ["main", "lib", "other"], ["main", "lib", "other"]))
        self.assertEqual(space.bound(), {("other", "table"): "main"})
        space = Space(small_shelf(), "main")
        space.bring(ahead=True, name="other")
        self.assertEqual(standing(space)[:3], (["other", "main"], ["other", "main", "lib"], ["main", "lib", "other"]))

    def test_groups_that_are_loaded_in_part(self):
        space = Space(small_shelf(), "lib")
        space.bring("main")
        self.assertEqual(standing(space)[:3], (["lib", "main"], ["lib", "main"], ["lib", "main"]))
        space.bring("other", True)
        self.assertEqual(space.scope(), ["other", "lib", "main"])
        self.assertEqual(space.loaded(), ["lib", "main", "other"])

    def test_weak_names_and_names_that_stay_bound(self):
        shelf = small_shelf()
        more = Shelf([shelf.module(name) for name in shelf.names()] + [
            Module("user", Unit([("user", "data", [named("one"), named("none")])]), ["lib"], ["none"]),
            Module("nones", Unit([("nones", "data", [0])], {"none": ("nones", 0)}))])
        space = Space(more, "user")
        self.assertEqual(space.bound(), {("user", "none"): None, ("user", "one"): "lib"})
        self.assertEqual(list(space.bound()), [("user", "none"), ("user", "one")])
        space.bring("nones", True)
        space.bring("main")
        space.bring("other", True)
        self.assertEqual(space.bound()[("user", "none")], None)
        self.assertEqual(space.bound()[("user", "one")], "lib")
        space.close("user")
        space.bring("user")
        self.assertEqual(space.bound()[("user", "none")], "nones")
        self.assertEqual(space.bound()[("user", "one")], "other")

    def test_errors(self):
        for thing in any_objects() + ["zz"]:
            self.assert_raises_with(NoModule, {"name": thing}, Space, small_shelf(), thing)
        self.assert_raises_with(NotBound, {"name": "other", "n": "table"}, Space, small_shelf(), "other")
        space = Space(small_shelf(), "main")
        space.bring("other")
        before = standing(space)
        for thing in any_objects():
            self.assert_raises_with(NoModule, {"name": thing}, space.bring, thing, None)
            self.assert_raises_with(IsOpen, {"name": "main"}, space.bring, "main", thing)
            if not isinstance(thing, bool):
                self.assert_raises_with(BadAhead, {"ahead": thing}, space.bring, "lib", thing)
        space.close("other")
        self.assertTrue(space.undo())
        self.assertEqual(standing(space), before)

    def test_not_bound_changes_nothing(self):
        space = Space(small_shelf(), "lib")
        before = standing(space)
        self.assert_raises_with(NotBound, {"name": "lone", "n": "maybe"}, space.bring, "lone")
        self.assert_raises_with(NotBound, {"name": "other", "n": "table"}, space.bring, "other", True)
        self.assertEqual(standing(space), before)
        self.assertFalse(space.undo())

    def test_first_module_that_would_be_loaded(self):
        one = Module("one", Unit([("a", "data", [named("x"), named("w")])]), ["two"], ["w"])
        two = Module("two", Unit([("b", "data", [named("y"), named("x")])], {"w": ("b", 0)}))
        shelf = Shelf([one, two])
        self.assert_raises_with(NotBound, {"name": "one", "n": "x"}, Space, shelf, "one")
        self.assert_raises_with(NotBound, {"name": "two", "n": "x"}, Space, shelf, "two")


class Calls(unittest.TestCase, Raising):
    def test_bound_now_and_before(self):
        space = Space(small_shelf(), "main")
        self.assertEqual(space.call("main", "one"), ("lib", ("lib", 0)))
        space.bring("other", True)
        self.assertEqual(space.call("main", "one"), ("lib", ("lib", 0)))
        self.assertEqual(space.call(wanted="maybe", name="main"), ("other", ("other", 0)))
        self.assertEqual(space.bound(), {("main", "maybe"): "other", ("main", "one"): "lib", ("other", "table"): "main"})
        self.assertEqual(list(space.bound()), [("main", "maybe"), ("main", "one"), ("other", "table")])

    def test_weak_ones_and_scope(self):
        space = Space(small_shelf(), "main")
        self.assertIsNone(space.call("main", "maybe"))
        self.assertEqual(space.bound(), {("main", "maybe"): None})
        space.bring("other", True)
        self.assertIsNone(space.call("main", "maybe"))
        self.assertEqual(space.call("main", "one"), ("other", ("other", 1)))

    def test_errors(self):
        space = Space(ring_shelf(), "main")
        for thing in any_objects() + ["ring", "zz"]:
            self.assert_raises_with(NotLoaded, {"name": thing}, space.call, thing, "x")
        for thing in any_objects() + ["m", "y"]:
            self.assert_raises_with(NotLate, {"n": thing}, space.call, "main", thing)
        self.assert_raises_with(NotBound, {"name": "main", "n": "x"}, space.call, "main", "x")
        self.assertEqual(space.bound(), {})
        self.assertFalse(space.undo())


class Closes(unittest.TestCase, Raising):
    def test_ring_goes(self):
        space = Space(ring_shelf(), "main")
        space.bring("ring")
        self.assertEqual(space.loaded(), ["main", "ring", "pair"])
        self.assertEqual(space.bound(), {("ring", "y"): "pair", ("pair", "x"): "ring"})
        space.close("ring")
        self.assertEqual(standing(space), (["main"], ["main"], ["main"], {}))

    def test_ring_stays_by_what_is_bound(self):
        space = Space(ring_shelf(), "main")
        space.bring("ring")
        space.call("main", "x")
        space.close(name="ring")
        self.assertEqual(standing(space), (["main"], ["main"], ["main", "ring", "pair"], {
            ("main", "x"): "ring", ("ring", "y"): "pair", ("pair", "x"): "ring"}))
        space.bring("pair", True)
        self.assertEqual(space.scope(), ["pair", "ring", "main"])
        self.assertEqual(space.loaded(), ["main", "ring", "pair"])

    def test_needs_of_what_is_bound_alone_go(self):
        shelf = Shelf([
            Module("main", Unit([("a", "data", [named("x")])]), [], [], ["x"]),
            Module("lib", Unit([("b", "data", [0])], {"x": ("b", 0)}), ["far"]),
            Module("far", Unit([("c", "data", [0])])),
        ])
        space = Space(shelf, "main")
        space.bring("lib")
        space.call("main", "x")
        space.close("lib")
        self.assertEqual(space.loaded(), ["main", "lib"])
        space.bring("lib")
        self.assertEqual(space.loaded(), ["main", "lib", "far"])

    def test_all_closed(self):
        space = Space(small_shelf(), "main")
        space.close("main")
        self.assertEqual(standing(space), ([], [], [], {}))
        self.assert_raises_with(NotBound, {"name": "other", "n": "table"}, space.bring, "other")
        space.bring("lib")
        self.assertEqual(space.loaded(), ["lib"])

    def test_errors(self):
        space = Space(small_shelf(), "main")
        for thing in any_objects() + ["lib", "other", "zz"]:
            self.assert_raises_with(NotOpen, {"name": thing}, space.close, thing)


class Deeds(unittest.TestCase, Raising):
    def test_undo_and_again(self):
        space = Space(small_shelf(), "main")
        rows = [standing(space)]
        for change in (lambda: space.bring("other", True), lambda: space.call("main", "one"),
                       lambda: space.close("other"), lambda: space.close("main")):
            change()
            rows.append(standing(space))
        for row in reversed(rows[:-1]):
            self.assertIs(space.undo(), True)
            self.assertEqual(standing(space), row)
        self.assertIs(space.undo(), False)
        for row in rows[1:]:
            self.assertIs(space.again(), True)
            self.assertEqual(standing(space), row)
        self.assertIs(space.again(), False)

    def test_what_changes_nothing_is_no_deed(self):
        space = Space(small_shelf(), "main")
        space.call("main", "one")
        space.bring("other")
        self.assertTrue(space.undo())
        self.assertEqual(space.call("main", "one"), ("lib", ("lib", 0)))
        self.assert_raises_with(IsOpen, {"name": "main"}, space.bring, "main")
        self.assert_raises_with(NotOpen, {"name": "other"}, space.close, "other")
        self.assertTrue(space.again())
        self.assertEqual(space.opened(), ["main", "other"])

    def test_what_changes_something_puts_out(self):
        space = Space(small_shelf(), "main")
        space.bring("other")
        space.undo()
        space.call("main", "maybe")
        self.assertFalse(space.again())
        self.assertEqual(space.opened(), ["main"])

    def test_copies_stand_alone(self):
        space = Space(small_shelf(), "main")
        space.bring("other")
        space.call("main", "one")
        space.undo()
        other = space.copy()
        self.assertEqual(standing(other), standing(space))
        self.assertTrue(other.again())
        self.assertEqual(other.bound()[("main", "one")], "lib")
        self.assertNotIn(("main", "one"), space.bound())
        self.assertTrue(space.undo())
        self.assertEqual(other.opened(), ["main", "other"])
        self.assertTrue(other.undo())
        self.assertTrue(other.undo())
        self.assertFalse(other.undo())
        self.assertEqual(other.opened(), ["main"])

    def test_what_is_returned_is_changed_behind(self):
        space = Space(small_shelf(), "main")
        for told in (space.opened(), space.scope(), space.loaded()):
            told.clear()
        space.call("main", "one")
        space.bound().clear()
        self.assertEqual(standing(space), (["main"], ["main", "lib"], ["main", "lib"], {("main", "one"): "lib"}))


class SecondWay(unittest.TestCase):
    def test_rows_of_steps(self):
        rng = seeded(31)
        for _ in range(150):
            shelf = random_shelf(rng, rng.randint(2, 5))
            try:
                space = Space(shelf, "ma")
            except NotBound:
                continue
            other = NaiveProcess.__new__(NaiveProcess)
            other.shelf, other.open, other.present, other.links = shelf, [], [], {}
            other.stored, other.r, other.at = {}, [], None
            other.bring("ma")
            for _ in range(12):
                name = rng.choice(shelf.names())
                if name in space.opened():
                    space.close(name)
                    close_naively(other, name)
                else:
                    ahead = rng.random() < 0.5
                    try:
                        space.bring(name, ahead)
                        self.assertTrue(other.bring(name, ahead))
                    except NotBound:
                        self.assertFalse(other.bring(name, ahead))
                self.assertEqual((space.opened(), space.scope(), space.loaded()), (other.open, other.scope(), other.present))
                self.assertEqual(space.bound(), {pair: one and one[0] for pair, one in other.links.items()})


def close_naively(space, name):
    space.open.remove(name)
    held = set(space.scope())
    for _ in range(len(space.present)):
        held |= {target[0] for (one, _), target in space.links.items() if one in held and target}
    space.present = [one for one in space.present if one in held]
    space.links = {pair: target for pair, target in space.links.items() if pair[0] in held}
