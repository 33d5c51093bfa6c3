"""[23]: packed offsets."""

import itertools
import random
import unittest

from loadanywhere.errors import BadOffset, BadStretch
from loadanywhere.packs import packed, packed_relocations, unpacked
from loadanywhere.relocating import relocations
from loadanywhere.units import Unit
from tests.helpers import Raising, any_objects, at, named


def is_even(part):
    return len({two - one for one, two in zip(part, part[1:])}) <= 1


def best(offsets):
    """The fewest stretches, of such lists the first one, found by all partings."""
    found = []
    for cuts in itertools.product([False, True], repeat=max(0, len(offsets) - 1)):
        parts = [[offset] for offset in offsets[:1]]
        for offset, cut in zip(offsets[1:], cuts):
            if cut:
                parts.append([offset])
            else:
                parts[-1].append(offset)
        if all(is_even(part) for part in parts):
            found.append((len(parts), [-len(part) for part in parts], parts))
    parts = min(found)[2]
    return [(part[0], part[1] - part[0] if len(part) > 1 else 1, len(part)) for part in parts]


class Packed(unittest.TestCase, Raising):
    def test_ordinary(self):
        self.assertEqual(packed([]), [])
        self.assertEqual(packed((5,)), [(5, 1, 1)])
        self.assertEqual(packed([0, 7]), [(0, 7, 2)])
        self.assertEqual(packed([0, 2, 4, 5, 6, 7, 20]), [(0, 2, 3), (5, 1, 3), (20, 1, 1)])
        self.assertEqual(packed(offsets=list(range(3, 10 ** 4, 3))), [(3, 3, 3333)])

    def test_beside_all_partings(self):
        rng = random.Random(1)
        for _ in range(400):
            offsets = sorted(rng.sample(range(14), rng.randint(1, 9)))
            self.assertEqual(packed(offsets), best(offsets))

    def test_bad_offsets(self):
        for thing in any_objects():
            if not isinstance(thing, (list, tuple)):
                self.assert_raises_with(BadOffset, {"index": 0}, packed, thing)
            if isinstance(thing, bool) or not isinstance(thing, int) or thing < 3:
                self.assert_raises_with(BadOffset, {"index": 2}, packed, [0, 2, thing, None])
        self.assert_raises_with(BadOffset, {"index": 0}, packed, [-1])
        self.assert_raises_with(BadOffset, {"index": 1}, packed, [4, 4])
        self.assert_raises_with(BadOffset, {"index": 1}, packed, [4, 3])


class Unpacked(unittest.TestCase, Raising):
    def test_the_contrary(self):
        rng = random.Random(2)
        for _ in range(200):
            offsets = sorted(rng.sample(range(50), rng.randint(0, 20)))
            self.assertEqual(unpacked(packed(offsets)), offsets)
        self.assertEqual(unpacked(stretches=[[0, 3, 2], (4, 1, 1), (5, 5, 3)]), [0, 3, 4, 5, 10, 15])
        self.assertEqual(unpacked(()), [])

    def test_bad_stretches(self):
        bad = [(-1, 1, 1), (9, 0, 1), (9, 1, 0), (9, 2, 1), (9, 0, 2), (4, 1, 1), (3, 2, 9), (9, 1), (9, 1, 1, 1),
               (True, 1, 1), (9, True, 1), (9, 1, True), ("9", 1, 1), (9, 1, None)]
        for thing in any_objects() + bad:
            self.assert_raises_with(BadStretch, {"index": 1}, unpacked, [(0, 4, 2), thing, None])
            if not isinstance(thing, (list, tuple)):
                self.assert_raises_with(BadStretch, {"index": 0}, unpacked, thing)


class PackedRelocations(unittest.TestCase):
    def test_in_the_order_of_relocations(self):
        unit = Unit([("b", "data", [at("a"), 0, at("a", 5), (0, [(("piece", "a"), 2), (("name", "n"), 1)]), at("a")]),
                     ("a", "code", [named("n"), at("a")])])
        a, n = ("piece", "a"), ("name", "n")
        self.assertEqual(list(packed_relocations(unit=unit).items()), [
            (("b", a, 1), [(0, 2, 3)]), (("b", a, 2), [(3, 1, 1)]), (("b", n, 1), [(3, 1, 1)]),
            (("a", n, 1), [(0, 1, 1)]), (("a", a, 1), [(1, 1, 1)])])
        self.assertEqual(packed_relocations(Unit([])), {})
        rows = [(p, k, unknown, many) for (p, unknown, many), stretches in packed_relocations(unit).items()
                for k in unpacked(stretches)]
        self.assertEqual(sorted(rows), sorted(relocations(unit)))
