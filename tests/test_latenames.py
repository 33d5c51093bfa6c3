"""[36]: late names beside what they would have meant."""

import unittest

from loadanywhere.errors import BadStep, NoModule, NotBound, WordError
from loadanywhere.latenames import late_parting, late_table, shows_late
from loadanywhere.modules import Module, Shelf
from loadanywhere.spaces import Space
from loadanywhere.units import Unit
from tests.helpers import Raising, any_objects, as_lists, named
from tests.naive import seeded
from tests.shelves import random_shelf, small_shelf
from tests.test_scopesteps import random_some, take


def meaning(shelf, space, name, n):
    for one in space.scope():
        if n in shelf.module(one).content.told():
            return one
    return None if n in shelf.module(name).weak else "not bound"


def naive_walk(shelf, root, some, deep):
    """All pairs (row, standing), by rows, up to a depth, with the first parting, followed by spaces and dicts."""
    some = [step for step in some if step[0] != "call"]

    def follow(row):
        space = Space(shelf, root)
        meant = {(name, n): meaning(shelf, space, name, n) for name in space.loaded()
                 for n in shelf.module(name).content.wanted()}
        for step in row:
            elder = space.loaded()
            take(space, step)
            meant = {(name, n): meant[(name, n)] if name in elder else meaning(shelf, space, name, n)
                     for name in space.loaded() for n in shelf.module(name).content.wanted()}
        return space, meant

    found = []
    rows = [()]
    for _ in range(deep + 1):
        newer = []
        for row in rows:
            try:
                space, meant = follow(row)
            except WordError:
                continue
            standing = (tuple(space.opened()), tuple(space.loaded()), meant)
            if standing in [one for _, one in found]:
                continue
            found.append((row, standing))
            for (name, n), early in meant.items():
                late = meaning(shelf, space, name, n)
                if n in shelf.module(name).late and late != early:
                    return found, (row, name, n, early, late)
            newer += [row + (step,) for step in some]
        rows = newer
    return found, None


class Partings(unittest.TestCase, Raising):
    def test_by_hand(self):
        shelf = small_shelf()
        self.assertEqual(late_parting(shelf, "main", [("call", "main", "one"), ("open", "other")]),
                         ((("open", "other"),), "main", "maybe", None, "other"))
        self.assertEqual(late_parting(shelf, "main", [["ahead", "other"], ["close", "main"]]),
                         ((("ahead", "other"),), "main", "maybe", None, "other"))
        self.assertIsNone(late_parting(some=[("open", "lib"), ("close", "lib")], root="main", shelf=shelf))
        self.assertEqual(late_parting(shelf, "main", [("open", "lib"), ("close", "main"), ("close", "lib")]), None)

    def test_not_bound(self):
        one = Module("one", Unit([("a", "data", [named("x")])]), [], [], ["x"])
        two = Module("two", Unit([("b", "data", [0])], {"x": ("b", 0)}))
        shelf = Shelf([one, two])
        self.assertEqual(late_parting(shelf, "one", [("open", "two")]), ((("open", "two"),), "one", "x", "not bound", "two"))
        self.assertEqual(late_parting(shelf, "two", [("open", "one"), ("close", "two")]),
                         ((("open", "one"), ("close", "two")), "one", "x", "two", "not bound"))
        self.assertEqual(late_table(shelf, "one", []), [(("one",), ("one",), {("one", "x"): "not bound"})])

    def test_beside_all_rows(self):
        rng = seeded(37)
        done = {True: 0, False: 0}
        while min(done.values()) < 25:
            shelf = random_shelf(rng, rng.randint(2, 4))
            some = random_some(rng, shelf, rng.randint(1, 4))
            try:
                Space(shelf, "ma")
            except NotBound:
                continue
            found, parting = naive_walk(shelf, "ma", some, 6)
            self.assertEqual(late_parting(shelf, "ma", as_lists(some)), parting)
            table = late_table(shelf, "ma", some)
            done[parting is None] += 1
            if parting is not None:
                self.assertIsNone(table)
                self.assertFalse(shows_late(shelf, "ma", some, [one for _, one in found]))
                continue
            self.assertEqual(table, [one for _, one in found])
            self.assertEqual([list(one[2]) for one in table], [list(one[2]) for _, one in found])
            self.check_bent(rng, shelf, some, table)

    def check_bent(self, rng, shelf, some, table):
        self.assertTrue(shows_late(shelf, "ma", some, table))
        self.assertTrue(shows_late(shelf, "ma", some, as_lists(table) + as_lists(table)[:1]))
        turned = [(one[0], one[1], dict(reversed(list(one[2].items())))) for one in reversed(table)]
        self.assertTrue(shows_late(shelf, "ma", some, turned))
        for index in range(len(table)):
            self.assertFalse(shows_late(shelf, "ma", some, table[:index] + table[index + 1:]))
        opened, loaded, meant = rng.choice(table)
        for bent in ((opened + opened[:1] if opened else ("ma", "ma"), loaded, meant), (opened, loaded + ("mz",), meant),
                     (opened, loaded, {**meant, ("ma", "zz"): None}), (opened, loaded[1:] + ("zz",), meant),
                     (opened, None, meant), (opened, {name: 1 for name in loaded}, meant), (opened, "ma", meant),
                     (opened, loaded), (opened, loaded, list(meant)), (None, loaded, meant), (opened, loaded * 2 or ("ma",), meant)):
            self.assertFalse(shows_late(shelf, "ma", some, table + [bent]))
        for key in meant:
            for worth in [7, [], "zz", "not  bound", True] + ([] if key[1] in shelf.module(key[0]).weak else [None]):
                self.assertFalse(shows_late(shelf, "ma", some, table + [(opened, loaded, {**meant, key: worth})]))
            less = {other: meant[other] for other in meant if other != key}
            other = {**less, ("ma", "zz"): meant[key]}
            self.assertFalse(shows_late(shelf, "ma", some, table + [(opened, loaded, other)]))
            self.assertFalse(shows_late(shelf, "ma", some, table + [(opened, loaded, less)]))


class Tables(unittest.TestCase, Raising):
    def test_more_standings(self):
        shelf = small_shelf()
        some = [("open", "lib"), ("close", "lib")]
        table = late_table(shelf, "main", some)
        self.assertEqual([one[:2] for one in table], [(("main",), ("main", "lib")), (("main", "lib"), ("main", "lib"))])
        more = (("lib",), ("lib",), {})
        self.assertTrue(shows_late(shelf, "main", some, table + [more, ((), (), {}), more]))
        self.assertFalse(shows_late(shelf, "main", some, table + [more]))
        self.assertFalse(shows_late(shelf, "main", [], [more]))
        self.assertTrue(shows_late(thing=table, some=[], root="main", shelf=shelf))
        # A name may have meant what is loaded no more, but not if it means another thing now.
        gone = (("main",), ("lib", "main"), {("main", "maybe"): "other", ("main", "one"): "lib"})
        self.assertFalse(shows_late(shelf, "main", [], table[:1] + [gone]))
        right = (("main",), ("lib", "main"), {("main", "one"): "lib", ("main", "maybe"): None})
        self.assertTrue(shows_late(shelf, "main", [], table[:1] + [right]))
        self.assertFalse(shows_late(shelf, "main", [("close", "main")], table[:1] + [right]))
        held = (("other",), ("other", "main"), {("main", "one"): "other", ("main", "maybe"): "other", ("other", "table"): "main"})
        self.assertTrue(shows_late(shelf, "main", [], table[:1] + [held]))
        all_open = (("main", "other"), ("main", "lib", "other"), {
            ("main", "maybe"): "other", ("main", "one"): "lib", ("other", "table"): "main"})
        self.assertTrue(shows_late(shelf, "main", [], table[:1] + [all_open]))
        for bent in ((("other",), ("other",), {("other", "table"): "main"}), (("main",), ("main", "other"), all_open[2]),
                     (*all_open[:2], {**all_open[2], ("other", "table"): "lib"}),
                     (("other",), ("other", "main"), {**held[2], ("other", "table"): "lib"}),
                     (("other",), ("other", "main"), {**held[2], ("other", "table"): "not bound"}),
                     (("other",), ("other", "main"), {**held[2], ("other", "table"): None}),
                     (("other",), ("other", "main"), {**held[2], ("main", "maybe"): "not bound"}),
                     (("other",), ("other", "main", "lib"), held[2])):
            self.assertFalse(shows_late(shelf, "main", [], table[:1] + [bent]))

    def test_any_objects(self):
        shelf = small_shelf()
        for thing in any_objects():
            self.assertFalse(shows_late(shelf, "main", [], thing))
            self.assertFalse(shows_late(shelf, "main", [], late_table(shelf, "main", []) + [thing]))

    def test_errors(self):
        shelf = small_shelf()
        for call, more in ((late_parting, []), (late_table, []), (shows_late, [None])):
            for thing in any_objects():
                self.assert_raises_with(NoModule, {"name": thing}, call, shelf, thing, None, *more)
                if not isinstance(thing, (list, tuple)):
                    self.assert_raises_with(BadStep, {"index": 0}, call, shelf, "main", thing, *more)
            self.assert_raises_with(NotBound, {"name": "other", "n": "table"}, call, shelf, "other", None, *more)
            for bad in (("call", "main", "main"), ("call", "main", "one"), None):
                some = [("call", "main", "one"), bad]
                self.assert_raises_with(BadStep, {"index": 1}, call, shelf, "main", some, *more)

    def test_changed_behind(self):
        shelf = small_shelf()
        table = late_table(shelf, "main", [])
        table[0][2].clear()
        self.assertEqual(len(late_table(shelf, "main", [])[0][2]), 2)
        self.assertIsInstance(table[0], tuple)
