"""[20], [21], [22]: relocation, moves, reach."""

import itertools
import random
import unittest

from loadanywhere.bases import base_of
from loadanywhere.errors import BadMove, BadReloc, NoPiece, NoPlace, Over
from loadanywhere.images import Image
from loadanywhere.relocating import (
    always_near, fitting, free_moves, hangs_on, mended, misfits, plain, relocations, shift, tied,
)
from loadanywhere.units import Unit
from loadanywhere.words import coded
from tests.helpers import Raising, any_objects, as_lists, at, has_lists_within, named
from tests.naive import random_placing, seeded

A, B, C = ("piece", "a"), ("piece", "b"), ("piece", "c")
N = ("name", "n")


def unit():
    return Unit([("b", "data", [(3, [(N, 2), (B, -1), (A, 4)]), 5]), ("a", "code", [at("a", 1), named("t", 9)])],
                {"t": ("b", 1), "s": ("a", 0)})


class Relocations(unittest.TestCase, Raising):
    def test_in_order(self):
        rows = [("b", 0, A, 4), ("b", 0, B, -1), ("b", 0, N, 2), ("a", 0, A, 1), ("a", 1, ("name", "t"), 1)]
        self.assertEqual(relocations(unit()), rows)
        self.assertEqual(relocations(unit=Unit([])), [])
        self.assertFalse(has_lists_within(relocations(unit())))

    def test_plain(self):
        self.assertEqual(plain(unit=unit()), Unit([("b", "data", [3, 5]), ("a", "code", [1, 9])], unit().told()))

    def test_mended(self):
        self.assertEqual(mended(plain(unit()), relocations(unit())), unit())
        self.assertEqual(mended(plain(unit()), as_lists(relocations(unit()))), unit())
        self.assertEqual(mended(unit(), []), unit())
        found = mended(rows=[("b", 1, N, 3), ("b", 0, A, -4), ("b", 1, N, -1), ["b", 1, ["piece", "a"], 0]], unit=unit())
        self.assertEqual(found.word("b", 1), (5, ((N, 2),)))
        self.assertEqual(found.word("b", 0), (3, ((B, -1), (N, 2))))
        self.assertEqual(found.told(), unit().told())
        self.assertEqual(unit().word("b", 1), (5, ()))

    def test_bad_relocs(self):
        good = ("b", 0, A, 1)
        bad = [("b", 2, A, 1), ("b", -1, A, 1), ("z", 0, A, 1), ("b", 0, ("in", 1), 1), ("b", 0, C, 1), ("b", 0, A, True),
               ("b", 0, A, None), ("b", 0, A), ("b", 0, A, 1, 1), ("b", False, A, 1), ("b", 0, "a", 1), (0, 0, A, 1),
               (["b"], 0, A, 1), ("b", 0, ("name", "N"), 1)]
        for thing in any_objects() + bad:
            self.assert_raises_with(BadReloc, {"index": 2}, mended, unit(), [good, list(good), thing, None])
            if not isinstance(thing, (list, tuple)):
                self.assert_raises_with(BadReloc, {"index": 0}, mended, unit(), thing)


def image():
    return Image([("a", "code", [0, at("b"), (4, [(B, 2), (A, -2)])]), ("b", "data", [at("b", 3), 9]),
                  ("c", "data", [(0, [(A, 1), (B, 1)])])], ("a", 0))


class Moves(unittest.TestCase, Raising):
    def test_shift(self):
        self.assertEqual(list(shift(image(), {"b": 10}).items()),
                         [(("a", 1), 10), (("a", 2), 20), (("b", 0), 10), (("c", 0), 10)])
        self.assertEqual(shift(image(), {"a": 10, "b": 10}), {("a", 1): 10, ("b", 0): 10, ("c", 0): 20})
        self.assertEqual(shift(moves={"a": 5, "b": -5, "c": 7}, image=image()),
                         {("a", 1): -5, ("a", 2): -20, ("b", 0): -5})
        self.assertEqual(shift(image(), {}), {})

    def test_shift_errors(self):
        for thing in any_objects():
            if not isinstance(thing, dict):
                self.assert_raises_with(NoPiece, {"p": None}, shift, image(), thing)
            if isinstance(thing, bool) or not isinstance(thing, int):
                self.assert_raises_with(BadMove, {"p": "b"}, shift, image(), {"a": 0, "b": thing, "c": None})
        for key in ("z", 1, None, ("a", 0)):
            self.assert_raises_with(NoPiece, {"p": key}, shift, image(), {"a": None, key: 0, "y": 0})

    def test_hangs_on(self):
        self.assertEqual(hangs_on(image(), "a"), [("a", 2), ("c", 0)])
        self.assertEqual(hangs_on(p="b", image=image()), [("a", 1), ("a", 2), ("b", 0), ("c", 0)])
        self.assertEqual(hangs_on(image(), "c"), [])
        for thing in any_objects() + ["z"]:
            if thing != "a":
                self.assert_raises_with(NoPiece, {"p": thing}, hangs_on, image(), thing)

    def test_tied_and_free(self):
        self.assertEqual(tied(image()), [("a", "b"), ("c",)])
        self.assertEqual(free_moves(image()), [(0, 0, 1)])
        one = Image([("a", "code", [(5, [(A, 1), (C, -1)])]), ("b", "data", [0]), ("c", "data", [0])], ("a", 0))
        self.assertEqual(tied(one), [("a", "c"), ("b",)])
        self.assertEqual(free_moves(image=one), [(1, 0, 1), (0, 1, 0)])
        one = Image([("a", "code", [(5, [(A, 2), (B, -3)])]), ("b", "data", [0])], ("a", 0))
        self.assertEqual(tied(image=one), [("a",), ("b",)])
        self.assertEqual(free_moves(one), [(3, 2)])
        one = Image([("a", "code", [0]), ("b", "data", [0])], ("a", 0))
        self.assertEqual(tied(one), [("a",), ("b",)])
        self.assertEqual(free_moves(one), [(1, 0), (0, 1)])

    def test_tied_by_sums(self):
        # By a - b + c - d and a + b - c - d, the pieces a and d are tied, and b and c, but not all.
        sums = [(0, list(zip([(("piece"), p) for p in "abcd"], row))) for row in ([1, -1, 1, -1], [1, 1, -1, -1])]
        one = Image([("a", "code", [0])] + [(p, "data", sums) for p in "bcd"], ("a", 0))
        self.assertEqual(tied(one), [("a", "d"), ("b", "c")])
        self.assertEqual(free_moves(one), [(1, 0, 0, 1), (0, 1, 1, 0)])
        # What cannot be moved at all is in one lot.
        one = Image([("b", "data", [at("c"), 0]), ("a", "code", [at("a")]), ("c", "data", [])], ("a", 0))
        self.assertEqual(tied(one), [("b",), ("a", "c")])

    def test_every_free_move_changes_no_word(self):
        rng = random.Random(3)
        for _ in range(150):
            many = rng.randint(1, 4)
            names = "abcd"[:many]
            words = [(0, [(("piece", p), rng.choice([0, 0, 1, -1, 2])) for p in names]) for _ in range(rng.randint(0, 3))]
            one = Image([("a", "code", [0] + words)] + [(p, "data", []) for p in names[1:]], ("a", 0))
            moves = free_moves(one)
            for move in moves:
                self.assertEqual(shift(one, dict(zip(names, move))), {})
            self.assertEqual(tuple(moves), base_of(moves, many))
            # All small moves that change no word are sums of these.
            for move in itertools.product(range(-2, 3), repeat=many):
                if not shift(one, dict(zip(names, move))):
                    self.assertEqual(base_of(moves + [move], many), tuple(moves))
            for lot in tied(one):
                self.assertTrue(all(len({move[names.index(p)] for p in lot}) == 1 for move in moves))


class Reach(unittest.TestCase, Raising):
    def test_bounds(self):
        for called in (3, 5, 8, 14):
            x = 6 if called == 8 else 0
            words = [coded(called, x, 0, d) for d in (-256, 255, -257, 256, 10 ** 20)]
            one = Image([("a", "code", words)], ("a", 0))
            self.assertEqual(misfits(one, {"a": 5}), [("a", 2), ("a", 3), ("a", 4)])
            self.assertFalse(always_near(one))
            self.assertFalse(fitting(one, {"a": 5}))
            one = Image([("a", "code", words[:2])], ("a", 0))
            self.assertEqual(misfits(one, {"a": 5}), [])
            self.assertTrue(always_near(one))
            self.assertTrue(fitting(one, {"a": 5}))

    def test_what_is_not_near(self):
        words = [coded(code, d=999) for code in (0, 1, 4, 6, 9, 12, 13, 16, 17, 31)]
        words += [coded(3, 1, 0, 999), coded(5, 0, 1, 999), coded(8, 0, 1, 999), (3, [(A, 1)]), (5, [(B, 1024)])]
        one = Image([("a", "code", words), ("b", "data", [coded(5, d=999), (5, [(A, 2048)])])], ("a", 0))
        self.assertEqual(misfits(one, {"a": 0, "b": 5000}), [])
        self.assertTrue(always_near(one))

    def test_second_words(self):
        one = Image([("a", "code", [coded(7, 1), coded(5, d=300), coded(6), coded(5, d=-300)])], ("a", 0))
        self.assertEqual(misfits(one, {"a": 0}), [("a", 1), ("a", 3)])

    def test_places_in_d(self):
        word = (coded(5, d=-3), [(B, 2048), (A, -2048)])
        one = Image([("b", "code", [0, word]), ("a", "code", [word])], ("a", 0))
        self.assertEqual(misfits(one, {"a": 0, "b": 258}), [])
        self.assertEqual(misfits(one, {"a": 0, "b": 259}), [("b", 1), ("a", 0)])
        self.assertEqual(misfits(one, {"a": 0, "b": -253}), [])
        self.assertEqual(misfits(places={"a": 0, "b": -254}, image=one), [("b", 1), ("a", 0)])
        self.assertFalse(always_near(image=one))
        self.assertTrue(fitting(places={"a": 0, "b": 100}, image=one))
        self.assertFalse(fitting(one, {"a": 0, "b": 1000}))

    def test_errors(self):
        one = Image([("a", "code", [0]), ("b", "code", [0])], ("a", 0))
        for thing in any_objects():
            if not isinstance(thing, dict):
                self.assert_raises_with(NoPlace, {"p": "a"}, misfits, one, thing)
            self.assertFalse(fitting(one, thing))
        self.assert_raises_with(NoPlace, {"p": "b"}, misfits, one, {"a": 0})
        self.assert_raises_with(Over, {"p": "a", "q": "b"}, misfits, one, {"a": 0, "b": 0})
        self.assertFalse(fitting(one, {"a": 0, "b": 0}))
        self.assertIs(fitting(one, {"a": 0, "b": 1}), True)

    def test_always_near_is_near_anywhere(self):
        for seed in range(60):
            rng = seeded(seed)
            words = [coded(rng.choice([3, 5, 8, 14]), 0, 0, rng.choice([0, 255, 255, -256, 256])) for _ in range(3)]
            one = Image([("a", "code", words), ("b", "data", [0])], ("a", 0))
            places = random_placing(rng, one)
            self.assertEqual(always_near(one), fitting(one, places))
