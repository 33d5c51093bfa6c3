"""[63] and nearest of [67]: rows that end first, and orders that call each other nearest."""

import unittest

from loadanywhere.errors import BadBegin, BadCalls, BadLot
from loadanywhere.lots import row_of, end_of
from loadanywhere.rowends import ends, nearest, shortest, shows_ends
from tests.helpers import Raising, any_objects, as_lists
from tests.lying import choices, naive_row, orders_of, random_lot
from tests.naive import seeded

LOT = {"b": (3, 1), "a": (5, 4), "c": (1, 2)}


class Shortest(unittest.TestCase, Raising):
    def test_by_hand(self):
        self.assertEqual(shortest(LOT), (("a", "b", "c"), 9))
        self.assertEqual(shortest({}), ((), 0))
        self.assertEqual(shortest(begin=7, lot={}), ((), 7))
        self.assertEqual(shortest({"x": [3, 4]}, 1), (("x",), 7))
        # All orders end alike: the first one of the lot is told.
        self.assertEqual(shortest({"z": (1, 1), "a": (1, 1), "m": (1, 1)}), (("z", "a", "m"), 3))
        # The first order leads over a worse place ahead, yet to the same end.
        self.assertEqual(shortest({"a": (1, 1), "b": (2, 2), "c": (4, 8)}, 4), (("a", "b", "c"), 12))

    def test_beside_all_orders(self):
        rng = seeded(310)
        for _ in range(150):
            lot = random_lot(rng)
            begin = rng.randint(0, 12)
            best = min(naive_row(lot, order, begin)[1] for order in orders_of(lot))
            first = next(order for order in orders_of(lot) if naive_row(lot, order, begin)[1] == best)
            self.assertEqual(shortest(lot, begin), (first, best))
            if lot:
                self.assertEqual(end_of(lot, row_of(lot, first, begin)), best)

    def test_eight_pieces(self):
        lot = random_lot(seeded(311), 8, 30)
        order, end = shortest(lot, 3)
        self.assertEqual(naive_row(lot, order, 3)[1], end)
        self.assertEqual(end, ends(lot, 3)[tuple(range(8))])
        self.assertTrue(shows_ends(lot, 3, ends(lot, 3)))

    def test_errors(self):
        for call in (shortest, ends, lambda lot, begin: shows_ends(lot, begin, None)):
            for thing in any_objects():
                if thing.__class__ is not int or thing < 0:
                    self.assert_raises_with(BadBegin, {"begin": thing}, call, LOT, thing)
            self.assert_raises_with(BadLot, {"name": "a"}, call, {"a": 0}, -1)


class Ends(unittest.TestCase):
    def test_beside_all_orders(self):
        rng = seeded(312)
        for _ in range(60):
            lot = random_lot(rng)
            begin = rng.randint(0, 12)
            names = list(lot)
            found = ends(lot, begin)
            self.assertEqual(list(found), choices(len(lot)))
            for some, end in found.items():
                part = {names[index]: lot[names[index]] for index in some}
                self.assertEqual(end, min(naive_row(part, order, begin)[1] for order in orders_of(part)))
            self.assertEqual(found[tuple(range(len(lot)))], shortest(lot, begin)[1])

    def test_shown(self):
        right = ends(LOT, 1)
        self.assertEqual(ends(begin=1, lot=as_lists(LOT)), right)
        self.assertIs(shows_ends(LOT, 1, right), True)
        self.assertIs(shows_ends(thing=dict(reversed(list(right.items()))), begin=1, lot=LOT), True)
        self.assertIs(shows_ends({}, 5, {(): 5}), True)
        self.assertIs(shows_ends({}, 5, {(): 4}), False)
        self.assertIs(shows_ends(LOT, 2, right), False)
        for key in right:
            for worth in (right[key] + 1, right[key] - 1, None, True, str(right[key]), float(right[key])):
                self.assertIs(shows_ends(LOT, 1, {**right, key: worth}), False)
            self.assertIs(shows_ends(LOT, 1, {other: worth for other, worth in right.items() if other != key}), False)
        for key in ((3,), (1, 0), (0, 0), "a", None, 0, (0, 1, 2, 3), ("b",)):
            self.assertIs(shows_ends(LOT, 1, {**right, key: 5}), False)
        truths = {tuple(bool(index) if index < 2 else index for index in key): worth for key, worth in right.items()}
        self.assertEqual(truths, right)
        self.assertIs(shows_ends(LOT, 1, truths), False)
        self.assertIs(shows_ends({"a": (1, 1)}, 0, {(): False, (0,): True}), False)
        for thing in any_objects():
            self.assertIs(shows_ends(LOT, 1, thing), False)

    def test_changed_behind(self):
        first = ends(LOT)
        first[()] = 7
        self.assertEqual(ends(LOT)[()], 0)


class Nearest(unittest.TestCase, Raising):
    def cost(self, lot, calls, order):
        found = 0
        for (one, other), weight in calls.items():
            low, high = sorted([order.index(one), order.index(other)])
            found += weight * sum(lot[name][0] for name in order[low + 1:high])
        return found

    def test_by_hand(self):
        lot = {"a": (10, 1), "b": (1, 1), "c": (5, 2)}
        self.assertEqual(nearest(lot, {("a", "c"): 3}), (("a", "c", "b"), 0))
        self.assertEqual(nearest(lot, {("a", "c"): 3, ("c", "b"): 1, ("b", "a"): 1}), (("a", "b", "c"), 3))
        self.assertEqual(nearest(calls={}, lot=lot), (("a", "b", "c"), 0))
        self.assertEqual(nearest({}, {}), ((), 0))
        self.assertEqual(nearest({"a": (1, 1)}, {}), (("a",), 0))

    def test_beside_all_orders(self):
        rng = seeded(313)
        for _ in range(100):
            lot = random_lot(rng)
            pairs = [(one, other) for one in lot for other in lot if one != other]
            calls = {pair: rng.randint(0, 4) for pair in rng.sample(pairs, rng.randint(0, len(pairs)))}
            best = min(self.cost(lot, calls, order) for order in orders_of(lot))
            first = next(order for order in orders_of(lot) if self.cost(lot, calls, order) == best)
            self.assertEqual(nearest(lot, calls), (first, best))

    def test_bad_calls(self):
        for thing in any_objects():
            if thing.__class__ is not dict:
                self.assert_raises_with(BadCalls, {"key": None}, nearest, LOT, thing)
            if thing.__class__ is not int or thing < 0:
                self.assert_raises_with(BadCalls, {"key": ("a", "b")}, nearest, LOT,
                                        {("b", "a"): 0, ("a", "b"): thing, "x": 1})
        for key in (("a", "a"), ("a", "x"), "ab", ("a",), ("a", "b", "c"), None, ("a", 1), 5, (("a",), "b")):
            self.assert_raises_with(BadCalls, {"key": key}, nearest, LOT, {("a", "c"): 2, key: 1, ("b", "c"): -1})
        self.assert_raises_with(BadLot, {"name": "a"}, nearest, {"a": 1}, None)


if __name__ == "__main__":
    unittest.main()
