"""[65], [66] and orders_in_reach of [67]: pieces in reach of each other."""

import itertools
import unittest

from loadanywhere.errors import BadLast, BadLayout, BadLot, BadOrder, BadReach, HasStride
from loadanywhere.reaches import barring_ring, climb, in_reach, least_places, orders_in_reach, shows_climb
from tests.helpers import Raising, any_objects, as_lists, as_tuples
from tests.lying import is_kept, naive_layouts, orders_of, random_lot, random_reaches
from tests.naive import seeded

LOT = {"b": (3, 1), "a": (5, 4), "c": (1, 2)}
ORDER = ("b", "a", "c")


def demand(lot, order, reaches, push):
    """The name by which a push raises and how much more, or None if it is none."""
    name, number = push
    if number == -1:
        index = order.index(name)
        return (order[index - 1], lot[order[index - 1]][0]) if index > 0 else None
    one, at, other, to, low, high = reaches[number]
    if one == other == name:
        return (name, max(at + low - to, to - high - at))
    if name == other:
        return (one, at + low - to)
    return (other, to - high - at) if name == one else None


def climbs(lot, order, reaches, last, pushes):
    """Whether pushes are a climb, followed one by one."""
    known = dict.fromkeys(lot, 0)
    longer = [name for name in lot if lot[name][0] > last]
    if longer or not pushes:
        return bool(longer) and not pushes
    for index, push in enumerate(pushes):
        found = demand(lot, order, reaches, push)
        if found is None:
            return False
        place = known[found[0]] + found[1]
        while place % lot[push[0]][1]:
            place += 1
        if place <= known[push[0]]:
            return False
        known[push[0]] = place
        if (place + lot[push[0]][0] > last) != (index == len(pushes) - 1):
            return False
    return True


class InReach(unittest.TestCase, Raising):
    def test_by_hand(self):
        layout = {"b": 0, "a": 4, "c": 10}
        reaches = [("b", 2, "a", 0, 2, 2), ("b", 2, "a", 0, 3, 9), ("a", 4, "b", 1, -9, -8), ("c", 0, "c", 0, 0, 0),
                   ("a", 0, "a", 4, 5, 6), ("a", 4, "b", 1, -7, -7)]
        self.assertEqual(in_reach(LOT, layout, reaches), [1, 2, 4])
        self.assertEqual(in_reach(reaches=as_lists(reaches), layout=layout, lot=as_lists(LOT)), [1, 2, 4])
        self.assertEqual(in_reach(LOT, layout, ()), [])
        self.assertEqual(in_reach({}, {}, []), [])

    def test_errors(self):
        layout = {"b": 0, "a": 4, "c": 10}
        right = ("b", 2, "a", 0, 2, 2)
        for call in (lambda reaches: in_reach(LOT, layout, reaches),
                     lambda reaches: least_places(LOT, ORDER, reaches, -1),
                     lambda reaches: climb(LOT, ORDER, reaches, -1),
                     lambda reaches: shows_climb(LOT, ORDER, reaches, -1, None),
                     lambda reaches: barring_ring(LOT, ORDER, reaches),
                     lambda reaches: orders_in_reach(LOT, reaches, -1)):
            for thing in any_objects():
                if thing.__class__ not in (list, tuple):
                    self.assert_raises_with(BadReach, {"index": 0}, call, thing)
                self.assert_raises_with(BadReach, {"index": 1}, call, [right, thing, 5])
                for place in range(6):
                    bent = right[:place] + (thing,) + right[place + 1:]
                    if thing != right[place] and not (place in (1, 3) and thing in (0, 1) and thing.__class__ is int) \
                            and not (place == 4 and thing in (0, 1, -1) and thing.__class__ is int) \
                            and not (place == 0 and thing == "a") \
                            and not (place == 5 and thing == 10 ** 40):
                        self.assert_raises_with(BadReach, {"index": 0}, call, [bent, right])
            for bent in (("b", 3, "a", 0, 2, 2), ("b", -1, "a", 0, 2, 2), ("b", 0, "a", 5, 2, 2),
                         ("b", 0, "a", 0, 3, 2), ("x", 0, "a", 0, 2, 2), ("b", 0, "x", 0, 2, 2),
                         ("b", 0, "a", 0, 2), ("b", 0, "a", 0, 2, 2, 2), "bababa"):
                self.assert_raises_with(BadReach, {"index": 0}, call, [bent])
        for thing in any_objects():
            self.assert_raises_with(BadLayout, {"layout": thing}, in_reach, LOT, thing, None)


class LeastPlaces(unittest.TestCase, Raising):
    def test_by_hand(self):
        self.assertEqual(least_places(LOT, ORDER, [], 11), {"b": 0, "a": 4, "c": 10})
        self.assertIsNone(least_places(LOT, ORDER, [], 10))
        self.assertEqual(climb(LOT, ORDER, [], 10), [("a", -1), ("c", -1)])
        reach = ("b", 0, "a", 0, 0, 4)
        self.assertEqual(least_places(LOT, ORDER, [("b", 0, "c", 0, 13, 20)], 99), {"b": 0, "a": 4, "c": 14})
        self.assertEqual(least_places(LOT, ORDER, [("b", 0, "a", 0, 0, 3)], 99), {"b": 1, "a": 4, "c": 10})
        self.assertEqual(list(least_places(LOT, ["c", "b", "a"], [reach], 2000).items()), [("b", 1), ("a", 4), ("c", 0)])
        self.assertEqual(least_places(last=11, reaches=as_lists([reach]), order=list(ORDER), lot=as_lists(LOT)),
                         {"b": 0, "a": 4, "c": 10})
        self.assertEqual(least_places({}, [], [], 0), {})
        self.assertIsNone(climb({}, [], [], 0))
        # A reach of one piece alone can never be kept, or always.
        self.assertIsNotNone(least_places(LOT, ORDER, [("a", 1, "a", 3, 2, 2)], 99))
        self.assertIsNone(least_places(LOT, ORDER, [("a", 1, "a", 3, 3, 4)], 99))
        self.assertEqual(climb({"a": (2, 1)}, ["a"], [("a", 0, "a", 1, 3, 4)], 6), [("a", 0), ("a", 0), ("a", 0)])
        self.assertEqual(climb({"a": (2, 1)}, ["a"], [("a", 0, "a", 1, -5, -4)], 9), [("a", 0), ("a", 0)])

    def test_empty_climbs(self):
        lot = {"a": (2, 1), "b": (7, 1)}
        self.assertEqual(climb(lot, ["a", "b"], [], 6), [])
        self.assertIs(shows_climb(lot, ["a", "b"], [], 6, []), True)
        self.assertIs(shows_climb(lot, ["a", "b"], [], 6, ()), True)
        self.assertIs(shows_climb(lot, ["a", "b"], [], 6, [("b", -1)]), False)
        self.assertIs(shows_climb(lot, ["a", "b"], [], 7, []), False)
        self.assertIs(shows_climb(lot, ["a", "b"], [], 7, [("b", -1)]), True)

    def test_beside_all_layouts(self):
        rng = seeded(330)
        with_layout = 0
        for _ in range(200):
            lot = random_lot(rng, rng.randint(1, 3), 5)
            order = list(lot)
            rng.shuffle(order)
            reaches = random_reaches(rng, lot, rng.randint(0, 4), 8)
            last = rng.randint(5, 28)
            all_of_them = naive_layouts(lot, order, reaches, last)
            found = least_places(lot, order, reaches, last)
            pushes = climb(lot, order, reaches, last)
            self.assertEqual(found is None, not all_of_them)
            self.assertEqual(found is None, pushes is not None)
            if found is not None:
                with_layout += 1
                self.assertIn(found, all_of_them)
                self.assertEqual(list(found), list(lot))
                self.assertEqual(found, {name: min(one[name] for one in all_of_them) for name in lot})
                self.assertEqual(in_reach(lot, found, reaches), [])
            else:
                self.assertTrue(climbs(lot, order, reaches, last, pushes))
                self.assertIs(shows_climb(lot, order, reaches, last, pushes), True)
        self.assertGreater(with_layout, 40)
        self.assertLess(with_layout, 180)

    def test_climbs_bent(self):
        rng = seeded(331)
        shown = 0
        for _ in range(250):
            lot = random_lot(rng, rng.randint(1, 4), 5)
            order = list(lot)
            reaches = random_reaches(rng, lot, rng.randint(1, 4), 8)
            last = rng.randint(5, 20)
            pushes = climb(lot, order, reaches, last)
            if pushes is None:
                pushes = [(rng.choice(order), rng.randint(-1, len(reaches) - 1)) for _ in range(rng.randint(0, 4))]
            for _ in range(6):
                bent = list(pushes)
                if bent and rng.random() < 0.5:
                    del bent[rng.randrange(len(bent))]
                if rng.random() < 0.5:
                    bent.insert(rng.randint(0, len(bent)), (rng.choice(order), rng.randint(-1, len(reaches) - 1)))
                right = climbs(lot, order, reaches, last, bent)
                shown += right
                self.assertIs(shows_climb(lot, order, reaches, last, bent), right)
                self.assertIs(shows_climb(lot, order, as_lists(reaches), last, tuple(as_lists(bent))), right)
        self.assertGreater(shown, 100)

    def test_climbs_of_any_objects(self):
        right = [("a", -1), ("c", -1)]
        self.assertIs(shows_climb(thing=right, last=10, reaches=[], order=ORDER, lot=LOT), True)
        for thing in any_objects():
            self.assertIs(shows_climb(LOT, ORDER, [], 10, thing), False)
            self.assertIs(shows_climb(LOT, ORDER, [], 10, [("a", -1), thing]), False)
            self.assertIs(shows_climb(LOT, ORDER, [], 10, [("a", thing), ("c", -1)]),
                          thing.__class__ is int and thing == -1)
        for pushes in ([("a", -1)], [("c", -1)], right + [("c", -1)], [("b", -1)] + right, [("a", -1), ("x", -1)],
                       [("a", -1), ("a", -1), ("c", -1)], [("a", 0), ("c", -1)], [("a", -2), ("c", -1)]):
            self.assertIs(shows_climb(LOT, ORDER, [], 10, pushes), False)
        self.assertIs(shows_climb(LOT, ORDER, [], 11, right), False)

    def test_errors_in_order(self):
        for call in (lambda *some: shows_climb(*some, None), least_places, climb):
            self.assert_raises_with(BadLot, {"name": None}, call, None, None, None, None)
            self.assert_raises_with(BadOrder, {"index": 0}, call, LOT, None, None, None)
            self.assert_raises_with(BadOrder, {"index": 2}, call, LOT, ["a", "b"], None, None)
            self.assert_raises_with(BadReach, {"index": 0}, call, LOT, ORDER, None, None)
            for thing in any_objects():
                if thing.__class__ is not int or thing < 0:
                    self.assert_raises_with(BadLast, {"last": thing}, call, LOT, ORDER, [], thing)
                    self.assert_raises_with(BadLast, {"last": thing}, orders_in_reach, LOT, [], thing)
        self.assert_raises_with(BadLot, {"name": None}, orders_in_reach, None, None, None)
        self.assert_raises_with(BadReach, {"index": 0}, orders_in_reach, LOT, None, None)
        self.assert_raises_with(BadLot, {"name": None}, barring_ring, None, None, None)
        self.assert_raises_with(BadOrder, {"index": 0}, barring_ring, LOT, 5, None)
        self.assert_raises_with(BadReach, {"index": 0}, barring_ring, LOT, ORDER, 5)
        self.assert_raises_with(HasStride, {"name": "a"}, barring_ring, LOT, ORDER, [])


def weight_of_ring(lot, order, reaches, ring):
    """The sum of the demands of a ring, each by what the one ahead raised; None if it is none."""
    found = 0
    for index, push in enumerate(ring):
        by = demand(lot, order, reaches, push)
        if by is None or by[0] != ring[index - 1][0]:
            return None
        found += by[1]
    return found


def shortest_rings(lot, order, reaches):
    """How many pushes the shortest ring has, by going through all rows of pushes."""
    pushes = [(name, number) for name in lot for number in range(-1, len(reaches))
              if demand(lot, order, reaches, (name, number)) is not None]
    for many in range(1, len(lot) + 1):
        for ring in itertools.product(pushes, repeat=many):
            weight = weight_of_ring(lot, order, reaches, ring)
            if weight is not None and weight > 0:
                return many
    return None


class Rings(unittest.TestCase):
    def test_by_hand(self):
        lot = {"a": (3, 1), "b": (2, 1), "c": (1, 1)}
        self.assertIsNone(barring_ring(lot, ["a", "b", "c"], []))
        ring = barring_ring(lot, ["a", "b", "c"], [("a", 0, "c", 0, 0, 4)])
        self.assertEqual(sorted(ring), [("a", 0), ("b", -1), ("c", -1)])
        self.assertEqual(barring_ring(order=["a"], reaches=[["a", 0, "a", 1, 2, 5]], lot={"a": [3, 1]}), [("a", 0)])
        self.assertIsNone(barring_ring({}, [], []))

    def test_as_short_as_any(self):
        rng = seeded(332)
        rings = 0
        for _ in range(80):
            lot = {name: (length, 1) for name, (length, _) in random_lot(rng, rng.randint(1, 4), 5).items()}
            order = list(lot)
            reaches = random_reaches(rng, lot, rng.randint(0, 3), 6)
            ring = barring_ring(lot, order, reaches)
            many = shortest_rings(lot, order, reaches)
            if many is None:
                self.assertIsNone(ring)
                # Without a ring there is a layout if there is room enough.
                self.assertIsNotNone(least_places(lot, order, reaches, 500))
                continue
            rings += 1
            self.assertEqual(len(ring), many)
            self.assertGreater(weight_of_ring(lot, order, reaches, ring), 0)
            self.assertEqual(ring, as_tuples(ring) if isinstance(ring, tuple) else [tuple(push) for push in ring])
            self.assertIsNone(least_places(lot, order, reaches, 500))
        self.assertGreater(rings, 15)
        self.assertLess(rings, 65)


class Orders(unittest.TestCase):
    def test_by_hand(self):
        self.assertEqual(orders_in_reach(LOT, [], 9), [("a", "b", "c"), ("c", "b", "a")])
        self.assertEqual(orders_in_reach(last=9, reaches=[("a", 0, "b", 0, 0, 99)], lot=LOT), [("a", "b", "c")])
        self.assertEqual(orders_in_reach(LOT, [], 8), [])
        self.assertEqual(orders_in_reach({}, [], 0), [()])

    def test_beside_all_orders(self):
        rng = seeded(333)
        some = 0
        for _ in range(160):
            lot = random_lot(rng, rng.randint(0, 4), 6)
            reaches = random_reaches(rng, lot, rng.randint(0, 4), 10)
            last = rng.randint(8, 40)
            right = [order for order in orders_of(lot) if least_places(lot, order, reaches, last) is not None]
            self.assertEqual(orders_in_reach(lot, reaches, last), right)
            some += 0 < len(right) < len(orders_of(lot))
            for order in right:
                found = least_places(lot, order, reaches, last)
                self.assertTrue(all(is_kept(found, reach) for reach in reaches))
        self.assertGreater(some, 15)

    def test_slow_climbs(self):
        # Each order goes round a ring that raises by 1 alone; with alignments by 2.
        for stride in (1, 2):
            lot = {name: (2, stride) for name in "abcdef"}
            reaches = [(one, 0, other, 0, -9, 9) for one, other in itertools.combinations("abcdef", 2)][:10]
            self.assertEqual(len(orders_in_reach(lot, reaches, 2000)) > 0, True)
            reaches[0] = ("a", 0, "b", 0, 12, 12)
            reaches[1] = ("c", 0, "d", 0, 11, 11)
            self.assertEqual(orders_in_reach(lot, reaches, 2000), [])


if __name__ == "__main__":
    unittest.main()
