"""[32], [33]: why modules are held, and what is loaded."""

import itertools
import unittest

from loadanywhere.errors import BadStart, IsOpen, NoModule, NoName, NoPlace, NotBound, Over
from loadanywhere.freetold import free_events
from loadanywhere.holdings import early_image, held_by, is_chain, loaded_unit, loaded_words
from loadanywhere.images import Image
from loadanywhere.modules import Module, Shelf
from loadanywhere.spaces import Space
from loadanywhere.units import Unit
from loadanywhere.words import coded
from tests.helpers import Raising, any_objects, as_lists, at, named
from tests.naive import seeded
from tests.shelves import main_unit, random_shelf, small_shelf


def all_links(space):
    found = [("open", name) for name in space.opened()]
    found += [("needs", name, one) for name in space.scope() for one in space.shelf.module(name).required]
    return found + [("bound", name, n, other) for (name, n), other in space.bound().items() if other]


def naive_chain(space, name):
    """The first of the shortest chains, of all rows of links."""
    links = all_links(space)
    for many in range(1, 5):
        chains = []
        for row in itertools.product(links, repeat=many):
            right = row[0][0] == "open" and row[-1][-1] == name
            if right and all(b[0] != "open" and a[-1] == b[1] for a, b in zip(row, row[1:])):
                chains.append(list(row))
        if chains:
            return min(chains)
    return None


class Chains(unittest.TestCase, Raising):
    def test_by_hand(self):
        space = Space(small_shelf(), "main")
        self.assertEqual(held_by(space, "main"), [("open", "main")])
        self.assertEqual(held_by(space, "lib"), [("open", "main"), ("needs", "main", "lib")])
        self.assertIsNone(held_by(name="other", space=space))
        space.call("main", "one")
        self.assertEqual(held_by(space, "lib"), [("open", "main"), ("bound", "main", "one", "lib")])
        space.bring("lib")
        self.assertEqual(held_by(space, "lib"), [("open", "lib")])

    def test_beside_all_rows(self):
        rng = seeded(32)
        for _ in range(60):
            shelf = random_shelf(rng, 4)
            try:
                space = Space(shelf, "ma")
                space.bring(rng.choice(["mb", "mc", "md"]))
            except (NotBound, IsOpen):
                continue
            for (name, n) in [(name, n) for name in space.loaded() for n in shelf.module(name).late]:
                if rng.random() < 0.6:
                    try:
                        space.call(name, n)
                    except NotBound:
                        pass
            if rng.random() < 0.5:
                space.close("ma")
            for name in shelf.names():
                chain = held_by(space, name)
                if len(all_links(space)) < 14:
                    self.assertEqual(chain, naive_chain(space, name))
                self.assertEqual(chain is not None, name in space.loaded())
                if chain is not None:
                    self.assertTrue(is_chain(space, name, chain))
                    self.assertTrue(is_chain(space, name, tuple(as_lists(chain))))

    def test_chains_of_any_kind(self):
        space = Space(small_shelf(), "main")
        space.bring("other", True)
        space.call("main", "maybe")
        longer = [("open", "other"), ("bound", "other", "table", "main"), ("bound", "main", "maybe", "other"),
                  ("bound", "other", "table", "main"), ("needs", "main", "lib")]
        self.assertTrue(is_chain(space, "lib", longer))
        self.assertTrue(is_chain(thing=longer[:3], name="other", space=space))
        self.assertFalse(is_chain(space, "main", longer[:3]))
        for bent in (longer[1:], longer[:1] + longer[2:], [], [longer[0], longer[0]], longer[:1] + [("open", "main")],
                     [("open", "lib")], [("open", "other", "lib")], longer[:4] + [("needs", "main", "other")],
                     longer[:2] + [("bound", "main", "one", "other")], longer[:4] + [("needs", "main", "lib", "lib")]):
            for name in small_shelf().names():
                self.assertFalse(is_chain(space, name, bent))
        for thing in any_objects():
            self.assertFalse(is_chain(space, "main", thing))
            self.assertFalse(is_chain(space, "main", [thing]))
            self.assertFalse(is_chain(space, "main", [("open", thing)]))
            self.assertFalse(is_chain(space, "lone", [("open", "main"), ("needs", thing, "lone")]))

    def test_errors(self):
        space = Space(small_shelf(), "main")
        for thing in any_objects() + ["zz"]:
            self.assert_raises_with(NoModule, {"name": thing}, held_by, space, thing)
            self.assert_raises_with(NoModule, {"name": thing}, is_chain, space, thing, [])

    def test_changed_behind(self):
        space = Space(small_shelf(), "main")
        held_by(space, "lib").clear()
        self.assertEqual(len(held_by(space, "lib")), 2)


class Words(unittest.TestCase, Raising):
    def test_slots_and_names(self):
        space = Space(small_shelf(), "main")
        unit = loaded_unit(space)
        self.assertEqual([p for p, _, _ in unit.pieces()], ["main", "slots", "lib"])
        self.assertEqual(unit.pieces()[1], ("slots", "data", ((0, ()), (0, ()), (0, ()))))
        self.assertEqual(unit.told(), {"main": ("main", 0), "table": ("slots", 0), "one": ("lib", 0)})
        self.assertEqual(unit.wanted(), [])
        space.call("main", "one")
        space.call("main", "maybe")
        slots = loaded_unit(space).pieces()[1][2]
        self.assertEqual(slots, (at("lib", 0), (0, ()), at("lib", 0)))
        space.bring("other", True)
        self.assertEqual(loaded_unit(space).told(), {
            "one": ("other", 1), "maybe": ("other", 0), "main": ("main", 0), "table": ("slots", 0)})
        self.assertEqual(loaded_unit(space).word("other", 2), at("slots", 0))

    def test_own_names_and_scope(self):
        lib = Unit([("b", "data", [named("x", 2), named("y")])], {"x": ("b", 1)})
        shelf = Shelf([
            Module("main", Unit([("a", "data", [named("x"), (1, [(("name", "x"), 3), (("name", "z"), -1)])])],
                                {"y": ("a", 0)}), [], ["z"], []),
            Module("lib", lib, [], ["y"]),
            Module("top", Unit([("c", "data", [named("x")])], {"x": ("c", 0)})),
        ])
        with self.assertRaises(NotBound):
            Space(shelf, "main")
        space = Space(shelf, "top")
        space.bring("main")
        space.bring("lib")
        unit = loaded_unit(space)
        self.assertEqual(unit.word("b", 0), at("b", 3))
        self.assertEqual(unit.word("b", 1), at("a", 0))
        self.assertEqual(unit.word("a", 1), (1, ((("piece", "c"), 3),)))
        self.assertEqual(unit.told()["x"], ("c", 0))
        space.close("top")
        self.assertEqual(space.loaded(), ["top", "main", "lib"])
        self.assertEqual(loaded_unit(space).told(), {"x": ("b", 1), "y": ("a", 0)})

    def test_loaded_words(self):
        space = Space(small_shelf(), "main")
        space.call("main", "one")
        words = loaded_words(places={"main": 100, "slots": 50, "lib": 10, "zz": None}, space=space)
        self.assertEqual(words[50], 10)
        self.assertEqual(words[101], 50)
        self.assertEqual(list(words)[:3], [10, 11, 50])
        self.assert_raises_with(NoPlace, {"p": "slots"}, loaded_words, space, {"main": 0, "slots": "x"})
        self.assert_raises_with(NoPlace, {"p": "main"}, loaded_words, space, None)
        self.assert_raises_with(Over, {"p": "main", "q": "lib"}, loaded_words, space, {"main": 0, "slots": 50, "lib": 8})

    def test_early_image(self):
        image = early_image(name="main", root="main", shelf=small_shelf())
        self.assertIsInstance(image, Image)
        self.assertEqual(image.first, ("main", 0))
        self.assertEqual(image.word("slots", 0), at("lib", 0))
        self.assertEqual(image.word("slots", 1), (0, ()))
        user = Module("user", Unit([("u", "code", [coded(7, 1), named("one", 4), coded(0)])], {"user": ("u", 0)}), ["lib"])
        early = early_image(Shelf([user, small_shelf().module("lib")]), "user", "user")
        self.assertEqual(early.word("u", 1), at("lib", 4))
        self.assertEqual(free_events(image, [False])[0], ("tell", at("lib", 0)))

    def test_early_errors(self):
        shelf = small_shelf()
        for thing in any_objects() + ["zz", "maybe", "none"]:
            self.assert_raises_with(NoName, {"name": thing}, early_image, shelf, "main", thing)
            if thing not in ("maybe", "none"):
                self.assert_raises_with(NoModule, {"name": thing}, early_image, shelf, thing, None)
        self.assert_raises_with(BadStart, {"address": ("slots", 0)}, early_image, shelf, "main", "table")
        self.assert_raises_with(NotBound, {"name": "other", "n": "table"}, early_image, shelf, "other", None)
        late = Shelf([Module("main", Unit([("a", "data", [named("u"), named("v")]), ("c", "code", [coded(0)])],
                                          {"main": ("c", 0)}), [], ["u"], ["v", "u"])])
        self.assert_raises_with(NotBound, {"name": "main", "n": "v"}, early_image, late, "main", None)
        self.assertEqual(main_unit().wanted(), ["maybe", "one"])
