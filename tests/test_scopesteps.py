"""[35], [36]: rows of steps, and what names come to mean by them."""

import itertools
import unittest

from loadanywhere.errors import BadStep, NoModule, NotBound, NotLate, NotLoaded, WordError
from loadanywhere.scopesteps import meanings, spaces, stepped
from loadanywhere.spaces import Space
from tests.helpers import Raising, any_objects, as_lists
from tests.naive import seeded
from tests.shelves import random_shelf, small_shelf

SOME = [("open", "other"), ("call", "main", "one"), ("close", "main"), ("ahead", "other"), ("close", "other")]


def standing(space):
    return (space.opened(), space.loaded(), space.bound())


def take(space, step):
    if step[0] in ("open", "ahead"):
        space.bring(step[1], step[0] == "ahead")
    elif step[0] == "close":
        space.close(step[1])
    else:
        space.call(step[1], step[2])


def brute_rows(shelf, root, some, longest):
    """All rows of so many steps that raise nowhere, in the order of choices, with their spaces."""
    found = []
    for many in range(longest + 1):
        for row in itertools.product(some, repeat=many):
            space = Space(shelf, root)
            try:
                for step in row:
                    take(space, step)
            except WordError:
                continue
            found.append((row, space))
    return found


class Stepped(unittest.TestCase, Raising):
    def test_by_hand(self):
        space = stepped(small_shelf(), "main", [["open", "other"], ("call", "main", "one"), ["close", "main"]])
        self.assertEqual(standing(space), (["other"], ["main", "lib", "other"], {
            ("main", "one"): "lib", ("other", "table"): "main"}))
        self.assertFalse(space.undo())
        self.assertFalse(space.again())
        space = stepped(steps=((("ahead"), "other"),), root="main", shelf=small_shelf())
        self.assertEqual(space.opened(), ["other", "main"])
        self.assertEqual(standing(stepped(small_shelf(), "main", [])), standing(Space(small_shelf(), "main")))

    def test_bad_steps(self):
        shelf = small_shelf()
        good = ("open", "other")
        wrong = any_objects() + [
            ("open", "zz"), ("open",), ("open", "lib", "lib"), ("call", "main"), ("call", "main", "main"),
            ("call", "lib", "one"), ("open", "main", "one"), ("call", "other", "table"), ("call", "zz", "one"), ("shut", "main"),
            ("open", None), ("call", "main", None), "open main", ("open", ["other"]), ("", "main"),
            ("open", "main"), ("close", "lib"), ("call", "other", "one")]
        for thing in wrong:
            self.assert_raises_with(BadStep, {"index": 1}, stepped, shelf, "main", [good, thing, None])
        self.assert_raises_with(BadStep, {"index": 0}, stepped, shelf, "main", [("open", "lone"), None])
        self.assert_raises_with(BadStep, {"index": 0}, stepped, shelf, "main", [("close", "other"), good])
        for thing in any_objects():
            if not isinstance(thing, (list, tuple)):
                self.assert_raises_with(BadStep, {"index": 0}, stepped, shelf, "main", thing)
            if thing != "a":
                self.assert_raises_with(NoModule, {"name": thing}, stepped, shelf, thing, thing)
                self.assert_raises_with(NoModule, {"name": thing}, spaces, shelf, thing, thing)
        for call in (stepped, spaces):
            self.assert_raises_with(NotBound, {"name": "other", "n": "table"}, call, shelf, "other", None)

    def test_call_that_raises(self):
        shelf = random_late_shelf()
        self.assert_raises_with(BadStep, {"index": 0}, stepped, shelf, "main", [("call", "main", "x")])


def random_late_shelf():
    from tests.test_spaces import ring_shelf
    return ring_shelf()


class Spaces(unittest.TestCase, Raising):
    def test_beside_all_rows(self):
        rng = seeded(35)
        done = 0
        while done < 25:
            shelf = random_shelf(rng, rng.randint(2, 4))
            some = random_some(rng, shelf, rng.randint(1, 4))
            try:
                Space(shelf, "ma")
            except NotBound:
                continue
            done += 1
            found = []
            for row, space in brute_rows(shelf, "ma", some, 5 if len(some) < 4 else 4):
                if standing(space) not in [standing(one) for _, one in found]:
                    found.append((row, space))
            told = spaces(shelf, "ma", as_lists(some))
            self.assertEqual([(row, standing(one)) for row, one in told][:len(found)],
                             [(row, standing(one)) for row, one in found])
            longest = max(len(row) for row, _ in told)
            self.assertEqual(len(told) == len(found), longest <= (5 if len(some) < 4 else 4))

    def test_nothing_to_take_back(self):
        for row, space in spaces(small_shelf(), "main", SOME):
            self.assertIsInstance(row, tuple)
            self.assertFalse(space.undo())
            self.assertFalse(space.again())
            self.assertEqual(standing(space), standing(stepped(small_shelf(), "main", row)))
        self.assertEqual(spaces(small_shelf(), "main", ())[0][0], ())

    def test_order_of_rows(self):
        rows = [row for row, _ in spaces(some=SOME, root="main", shelf=small_shelf())]
        places = [[SOME.index(step) for step in row] for row in rows]
        self.assertEqual(places, sorted(places, key=lambda row: (len(row), row)))
        self.assertEqual(rows[:4], [(), (SOME[0],), (SOME[1],), (SOME[2],)])

    def test_stood_before_comes_ahead_of_any_step(self):
        shelf = small_shelf()
        twice = [("close", "lib"), ("open", "other"), ["close", "lib"]]
        self.assert_raises_with(BadStep, {"index": 2}, spaces, shelf, "main", twice)
        self.assert_raises_with(BadStep, {"index": 1}, spaces, shelf, "main", [("close", "lib"), ("open", "zz")])
        self.assert_raises_with(BadStep, {"index": 0}, spaces, shelf, "main", {"open": "main"})
        self.assertEqual(len(spaces(shelf, "main", [("close", "lib")])), 1)


def random_some(rng, shelf, many):
    steps = [(word, name) for word in ("open", "ahead", "close") for name in shelf.names()]
    steps += [("call", name, n) for name in shelf.names() for n in shelf.module(name).late]
    return rng.sample(steps, min(many, len(steps)))


class Meanings(unittest.TestCase, Raising):
    def test_by_hand(self):
        found = meanings(small_shelf(), "main", SOME, "main", "one")
        self.assertEqual(found, {"lib": (), "other": (("ahead", "other"),)})
        self.assertEqual(list(found), ["lib", "other"])
        found = meanings(wanted="maybe", name="main", some=as_lists(SOME), root="main", shelf=small_shelf())
        self.assertEqual(found, {None: (), "other": (("open", "other"),)})
        late = random_late_shelf()
        self.assertEqual(meanings(late, "main", [("open", "pair"), ("close", "main")], "main", "x"),
                         {"not bound": (), "ring": (("open", "pair"),)})

    def test_beside_all_rows(self):
        rng = seeded(36)
        done = 0
        while done < 40:
            shelf = random_shelf(rng, 3)
            some = random_some(rng, shelf, 3)
            pairs = [(name, n) for name in shelf.names() for n in shelf.module(name).late]
            try:
                Space(shelf, "ma")
            except NotBound:
                continue
            for name, n in pairs:
                done += 1
                found = {}
                for row, space in brute_rows(shelf, "ma", some, 4):
                    if name in space.loaded():
                        try:
                            target = space.call(name, n)
                            found.setdefault(target and target[0], row)
                        except NotBound:
                            found.setdefault("not bound", row)
                if found:
                    told = meanings(shelf, "ma", some, name, n)
                    self.assertEqual(list(told.items())[:len(found)], list(found.items()))

    def test_errors(self):
        shelf = small_shelf()
        for thing in any_objects():
            self.assert_raises_with(NoModule, {"name": thing}, meanings, shelf, "main", [], thing, None)
            self.assert_raises_with(NotLate, {"n": thing}, meanings, shelf, "main", [], "main", thing)
            self.assert_raises_with(NoModule, {"name": thing}, meanings, shelf, thing, None, None, None)
        self.assert_raises_with(NotLate, {"n": "table"}, meanings, shelf, "main", [], "other", "table")
        self.assert_raises_with(BadStep, {"index": 0}, meanings, shelf, "main", None, None, None)
        late = random_late_shelf()
        self.assert_raises_with(NotLoaded, {"name": "main"}, meanings, late, "ring", [("open", "pair")], "main", "x")
