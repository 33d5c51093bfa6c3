"""[64]: pieces laid in holes."""

import itertools
import unittest

from loadanywhere.errors import BadHoles, BadLot
from loadanywhere.holes import filled, laid_in
from loadanywhere.lots import is_layout
from tests.helpers import Raising, any_objects, as_lists
from tests.lying import choices, naive_row, orders_of, random_lot
from tests.naive import seeded


def can_lie(lot, some, hole):
    names = list(lot)
    part = {names[index]: lot[names[index]] for index in some}
    return any(naive_row(part, order, hole[0])[1] <= hole[1] for order in orders_of(part)) or not part


def can_lie_in_all(lot, some, holes):
    """Whether some way to give each piece a hole lays all."""
    for way in itertools.product(range(len(holes)), repeat=len(some)):
        if all(can_lie(lot, [index for index, to in zip(some, way) if to == number], hole)
               for number, hole in enumerate(holes)):
            return True
    return not some


def random_holes(rng, many):
    found, begin = [], 0
    for _ in range(many):
        begin += rng.choice([0, 0, 1, 5])
        found.append((begin, begin + rng.randint(1, 14)))
        begin = found[-1][1]
    return found


class Holes(unittest.TestCase, Raising):
    def test_by_hand(self):
        lot = {"a": (4, 4), "b": (3, 1), "c": (2, 2)}
        self.assertEqual(laid_in(lot, [(4, 8), (9, 14)]), {"a": 4, "b": 9, "c": 12})
        self.assertEqual(list(laid_in(holes=[[4, 8], [9, 14]], lot=as_lists(lot))), ["a", "b", "c"])
        self.assertIsNone(laid_in(lot, [(5, 9), (9, 14)]))
        self.assertEqual(filled(lot, [(4, 8), (9, 14)]), [((),), ((0,), (1,), (2,)), ((0, 1, 2),)])
        self.assertEqual(filled(lot, ((5, 9), (9, 14))), [((),), ((1,), (2,)), ((1, 2),)])
        self.assertEqual(laid_in({}, []), {})
        self.assertEqual(filled({}, []), [((),)])
        self.assertEqual(filled({}, [(0, 1)]), [((),), ((),)])
        self.assertIsNone(laid_in(lot, []))
        self.assertEqual(filled(lot, []), [((),)])
        # Holes that touch are two: what is longer than each lies in none.
        self.assertIsNone(laid_in({"a": (4, 1)}, [(0, 3), (3, 6)]))
        self.assertEqual(laid_in({"a": (4, 1)}, [(0, 3), (3, 7)]), {"a": 3})

    def test_beside_all_ways(self):
        rng = seeded(320)
        laid = 0
        for _ in range(60):
            lot = random_lot(rng, rng.randint(0, 4))
            holes = random_holes(rng, rng.randint(0, 3))
            can = {k: {some for some in choices(len(lot)) if can_lie_in_all(lot, some, holes[:k])}
                   for k in range(len(holes) + 1)}
            right = []
            for k in range(len(holes) + 1):
                right.append(tuple(some for some in choices(len(lot)) if some in can[k] and not any(
                    tuple(sorted(some + (index,))) in can[k] for index in range(len(lot)) if index not in some)))
            self.assertEqual(filled(lot, holes), right)
            every = tuple(range(len(lot)))
            found = laid_in(lot, holes)
            self.assertEqual(found is not None, every in can[len(holes)])
            self.assertEqual(right[-1] == (every,), found is not None)
            if found is not None:
                laid += 1
                self.assertTrue(is_layout(lot, found))
                self.assertEqual(list(found), list(lot))
                for name, place in found.items():
                    self.assertTrue(any(begin <= place and place + lot[name][0] <= end for begin, end in holes))
        self.assertGreater(laid, 15)
        self.assertLess(laid, 50)

    def test_eight_pieces(self):
        lot = random_lot(seeded(321), 8, 20)
        holes = [(0, 30), (31, 60), (60, 61), (64, 100), (128, 200)]
        found = laid_in(lot, holes)
        self.assertTrue(is_layout(lot, found))
        self.assertEqual(filled(lot, holes)[-1], (tuple(range(8)),))

    def test_errors(self):
        lot = {"a": (1, 1)}
        for call in (laid_in, filled):
            for thing in any_objects():
                if thing.__class__ not in (list, tuple):
                    self.assert_raises_with(BadHoles, {"index": 0}, call, lot, thing)
                if thing != (1, 2):
                    self.assert_raises_with(BadHoles, {"index": 1}, call, lot, [(0, 1), thing, 5])
            for holes, index in (([(0, 0)], 0), ([(2, 1)], 0), ([(-1, 1)], 0), ([(0, 3), (2, 4)], 1),
                                 ([(0, 3), (3, 4), (4, 4)], 2), ([(False, 1)], 0), ([(0, True)], 0), ([(0, 1, 2)], 0),
                                 ([(5, 6), (0, 1)], 1)):
                self.assert_raises_with(BadHoles, {"index": index}, call, lot, holes)
            self.assert_raises_with(BadLot, {"name": "A"}, call, {"A": (1, 1)}, 0)


if __name__ == "__main__":
    unittest.main()
