"""[68], [69]: stubs and hops."""

import itertools
import unittest

from loadanywhere.errors import BadGoals, BadHop, BadPlaces, BadRooms, NoCall, OutOfReach
from loadanywhere.stubs import are_stubs, calls_apart, fewest_hops, fewest_stubs, way_of
from tests.helpers import Raising, any_objects, as_lists
from tests.naive import seeded

CALLS = [(0, "b"), (9, "a"), (4, "b"), (20, "b"), (9, "a")]
ROOMS = [-3, 2, 5, 11, 18]


def by_chance(rng, many=7, wide=30):
    calls = [(rng.randint(-wide, wide), rng.choice(["f", "g"])) for _ in range(rng.randint(0, many))]
    rooms = sorted(rng.sample(range(-wide, wide), rng.randint(0, 9)))
    return calls, rooms, rng.randint(0, 14)


def targets_of(calls):
    return list(dict.fromkeys(target for _, target in calls))


def is_near(room, place, reach):
    return -reach <= room - place <= reach


class Stubs(unittest.TestCase, Raising):
    def test_by_hand(self):
        self.assertEqual(fewest_stubs(CALLS, ROOMS, 5), {"b": (5, 18), "a": (11,)})
        self.assertEqual(list(fewest_stubs(CALLS, ROOMS, 5)), ["b", "a"])
        self.assertEqual(calls_apart(reach=5, rooms=tuple(ROOMS), calls=as_lists(CALLS)), {"b": (0, 3), "a": (1,)})
        self.assertEqual(fewest_stubs([], ROOMS, 5), {})
        self.assertEqual(fewest_stubs([], [], 0), {})
        self.assertEqual(calls_apart([], [], 0), {})
        self.assertEqual(fewest_stubs([(7, "x")], [7], 0), {"x": (7,)})
        self.assertEqual(fewest_stubs([(10 ** 12, "x"), (-10 ** 12, "x")], [0], 10 ** 12), {"x": (0,)})
        # Calls in any order: the numbers are told ascending.
        self.assertEqual(calls_apart([(30, "x"), (0, "x")], [0, 30], 3), {"x": (0, 1)})

    def test_beside_all_lots_of_rooms(self):
        rng = seeded(340)
        served = 0
        for _ in range(300):
            calls, rooms, reach = by_chance(rng)
            out = [index for index, (place, _) in enumerate(calls)
                   if not any(is_near(room, place, reach) for room in rooms)]
            if out:
                self.assert_raises_with(OutOfReach, {"index": out[0]}, fewest_stubs, calls, rooms, reach)
                self.assert_raises_with(OutOfReach, {"index": out[0]}, calls_apart, calls, rooms, reach)
                continue
            served += 1
            found = fewest_stubs(calls, rooms, reach)
            apart = calls_apart(calls, rooms, reach)
            self.assertEqual((list(found), list(apart)), (targets_of(calls), targets_of(calls)))
            for target in found:
                places = [place for place, other in calls if other == target]
                for many in range(len(rooms) + 1):
                    right = [some for some in itertools.combinations(rooms, many)
                             if all(any(is_near(room, place, reach) for room in some) for place in places)]
                    if right:
                        break
                self.assertEqual(found[target], tuple(max(some[index] for some in right) for index in range(many)))
                self.assertIn(found[target], right)
                self.assertEqual(len(apart[target]), many)
                self.assertEqual(sorted(apart[target]), list(apart[target]))
                self.assertTrue(all(calls[index][1] == target for index in apart[target]))
                for one, other in itertools.combinations(apart[target], 2):
                    self.assertFalse(any(is_near(room, calls[one][0], reach) and is_near(room, calls[other][0], reach)
                                         for room in rooms))
            self.assertIs(are_stubs(calls, rooms, reach, found), True)
        self.assertGreater(served, 80)

    def test_are_stubs(self):
        right = {"b": (5, 18), "a": (11,)}
        self.assertIs(are_stubs(thing=right, reach=5, rooms=ROOMS, calls=CALLS), True)
        for thing in ({"a": [11], "b": [18, 5]}, {"a": [5], "b": [18, 2, 5, 18]}, {"a": ROOMS, "b": tuple(ROOMS)}):
            self.assertIs(are_stubs(CALLS, ROOMS, 5, thing), True)
            self.assertIs(are_stubs(CALLS, ROOMS, 1, thing), False)
        for thing in ({"b": (5, 18)}, {"b": (5, 18), "a": ()}, {"b": (5, 18), "a": (11,), "c": ()},
                      {"b": (5,), "a": (11,)}, {"b": (5, 18), "a": (10,)}, {"b": (5, 18), "a": (11, 12)},
                      {"b": (5, 18), "a": 11}, {"b": (5, 18), "a": {11: 11}}, {"b": (5, 18), "a": (11.0,)},
                      {"b": (5, 18), "A": (11,)}, {"b": (5, 18), "a": (11, True)}, {"b": (5, 18), "a": (11, "a")}):
            self.assertIs(are_stubs(CALLS, ROOMS, 5, thing), False)
        # A call that no room serves has no stubs at all.
        self.assertIs(are_stubs([(0, "x")], [], 5, {"x": ()}), False)
        self.assertIs(are_stubs([(0, "x")], [9], 5, {"x": [9]}), False)
        self.assertIs(are_stubs([(0, "x")], [1], 5, {"x": [True]}), False)
        for thing in any_objects():
            self.assertIs(are_stubs(CALLS, ROOMS, 5, thing), False)
            self.assertIs(are_stubs([], [], 0, thing), thing == {})
            self.assertIs(are_stubs([(0, "x")], [1], 1, {"x": [1, thing]}), thing == 1 and thing is not True)
            self.assertIs(are_stubs([(0, "x")], [1], 1, {"x": thing}), thing == [1])

    def test_changed_behind(self):
        rooms = [0]
        first = fewest_stubs([(0, "x")], rooms, 1)
        rooms[0] = 5
        self.assertEqual(first, {"x": (0,)})


class Hops(unittest.TestCase, Raising):
    def test_by_hand(self):
        goals = {"t": 0, "u": 50}
        calls = [(12, "t"), (-30, "t"), (5, "t"), (50, "u"), (55, "u"), (-4, "t")]
        rooms = [-25, -22, -18, -14, -9, -8, 3, 6, 9, 14]
        found = fewest_hops(calls, goals, rooms, 10)
        # On each side the first of all lists with so few rooms.
        self.assertEqual(found, {"t": (-25, -18, -9, 3), "u": ()})
        self.assertEqual(list(fewest_hops(list(reversed(calls)), goals, rooms, 10)), ["t", "u"])
        self.assertEqual(way_of(calls, goals, rooms, 10, 1), (-25, -18, -9))
        self.assertEqual(way_of(calls, goals, rooms, 10, 0), (3,))
        for index in (2, 3, 4, 5):
            self.assertEqual(way_of(calls, goals, rooms, 10, index), ())
        self.assertEqual(fewest_hops(reach=0, rooms=[], goals={"x": 3}, calls=[[3, "x"]]), {"x": ()})
        self.assertEqual(fewest_hops([], {}, [], 0), {})
        # Rooms beyond the target, at it, and behind the call are of no use.
        self.assert_raises_with(OutOfReach, {"index": 0}, fewest_hops, [(20, "x")], {"x": 0}, [-1, 0, 20, 21, 25], 12)
        self.assertEqual(fewest_hops([(20, "x"), (8, "x")], {"x": 0, "y": 9}, [-1, 0, 9, 20], 12), {"x": (9,)})
        self.assertEqual(way_of([(20, "x"), (8, "x"), (13, "x")], {"x": 0}, [8, 9, 20], 12, 2), (8,))

    def test_beside_all_lots_of_rooms(self):
        rng = seeded(341)
        some = 0
        for _ in range(900):
            calls, rooms, reach = by_chance(rng, 5)
            goals = {"g": rng.randint(-20, 20), "f": rng.randint(-20, 20)}
            out = [index for index, (place, target) in enumerate(calls)
                   if naive_ways(place, goals[target], rooms, reach) is None]
            if out:
                self.assert_raises_with(OutOfReach, {"index": out[0]}, fewest_hops, calls, goals, rooms, reach)
                self.assert_raises_with(OutOfReach, {"index": out[0]}, way_of, calls, goals, rooms, reach, None)
                continue
            found = fewest_hops(calls, goals, rooms, reach)
            self.assertEqual(list(found), targets_of(calls))
            for target in found:
                goal = goals[target]
                sides = ()
                for side in (-1, 1):
                    places = [place for place, other in calls if other == target and (place - goal) * side > 0]
                    between = [room for room in rooms if (room - goal) * side > 0]
                    right = least_lot(places, goal, between, reach)
                    sides += right
                    # The call that is farthest away alone says how many.
                    if places:
                        farthest = max(places, key=lambda place: abs(place - goal))
                        self.assertEqual(least_lot([farthest], goal, between, reach), right)
                self.assertEqual(found[target], sides)
                some += len(sides) > 1
            for index, (place, target) in enumerate(calls):
                way = way_of(calls, goals, rooms, reach, index)
                self.assertEqual(way, naive_ways(place, goals[target], found[target], reach))
        self.assertGreater(some, 20)

    def test_errors_in_order(self):
        for call in (lambda *some: fewest_hops(*some), lambda *some: way_of(*some, None)):
            for thing in any_objects():
                if thing.__class__ not in (list, tuple):
                    self.assert_raises_with(BadPlaces, {"index": 0}, call, thing, None, None, None)
                self.assert_raises_with(BadPlaces, {"index": 1}, call, [(0, "x"), thing if thing not in (
                    ("a", 0), ["a", 0]) else 5, 5], None, None, None)
                if thing.__class__ is not dict:
                    self.assert_raises_with(BadGoals, {"key": None}, call, [(0, "x")], thing, None, None)
                if thing.__class__ is not int:
                    self.assert_raises_with(BadGoals, {"key": "y"}, call, [(0, "x")], {"y": thing, "A": 0}, None, None)
                if thing.__class__ not in (list, tuple):
                    self.assert_raises_with(BadRooms, {"index": 0}, call, [(0, "x")], {"x": 0}, thing, None)
                if thing.__class__ is not int or thing < 0:
                    self.assert_raises_with(BadHop, {"reach": thing}, call, [(99, "x")], {"x": 0}, [], thing)
            self.assert_raises_with(BadGoals, {"key": "A"}, call, [(0, "x")], {"y": 0, "A": 0}, None, None)
            self.assert_raises_with(BadGoals, {"key": "x"}, call, [(0, "y"), (0, "x"), (0, "z")], {"y": 0}, None, None)
            self.assert_raises_with(OutOfReach, {"index": 1}, call, [(0, "x"), (9, "x")], {"x": 0}, [], 5)
        for call in (fewest_stubs, calls_apart, lambda *some: are_stubs(*some, None)):
            for thing in any_objects():
                if thing.__class__ not in (list, tuple):
                    self.assert_raises_with(BadPlaces, {"index": 0}, call, thing, None, None)
                    self.assert_raises_with(BadRooms, {"index": 0}, call, CALLS, thing, None)
                if thing.__class__ is not int or thing < 2:
                    self.assert_raises_with(BadRooms, {"index": 1}, call, CALLS, [1, thing], None)
                if thing.__class__ is not int or thing < 0:
                    self.assert_raises_with(BadHop, {"reach": thing}, call, CALLS, [], thing)
            for bad in ((0,), (0, "x", 1), (0, "X"), (True, "x"), (0, 0), ("x", 0), (0.0, "x"), "ax"):
                self.assert_raises_with(BadPlaces, {"index": 2}, call, [(0, "a"), (0, "a"), bad], None, None)
            for rooms, index in (([0, 0], 1), ([0, -1], 1), ([5, 6, True], 2), ([None], 0), ([0, 1, 1, "a"], 2)):
                self.assert_raises_with(BadRooms, {"index": index}, call, CALLS, rooms, None)

    def test_no_call(self):
        for thing in any_objects():
            if thing.__class__ is not int or thing not in (0, 1):
                self.assert_raises_with(NoCall, {"index": thing}, way_of, [(0, "x"), (1, "x")], {"x": 0}, [], 3, thing)
        self.assert_raises_with(NoCall, {"index": 2}, way_of, [(0, "x"), (1, "x")], {"x": 0}, [], 3, 2)
        self.assertEqual(way_of(index=1, reach=3, rooms=[], goals={"x": 0}, calls=[(0, "x"), (1, "x")]), ())


def naive_ways(place, goal, rooms, reach):
    """The rooms by which one comes from a place to a goal, each hop as far as can be; None if one does not."""
    found = []
    while abs(place - goal) > reach:
        near = [room for room in rooms if is_near(room, place, reach) and min(place, goal) < room < max(place, goal)]
        if not near:
            return None
        place = min(near, key=lambda room: abs(room - goal))
        found.append(place)
    return tuple(found)


def least_lot(places, goal, rooms, reach):
    """The first of the least lots of rooms by which one comes from all places to a goal."""
    for many in range(len(rooms) + 1):
        for some in itertools.combinations(rooms, many):
            if all(naive_ways(place, goal, some, reach) is not None for place in places):
                return some
    return None


if __name__ == "__main__":
    unittest.main()
