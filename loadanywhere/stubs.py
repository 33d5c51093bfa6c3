"""Stubs in rooms: as few as serve all calls on a line of words, also hop by hop."""

from loadanywhere.errors import BadGoals, BadHop, BadPlaces, BadRooms, NoCall, OutOfReach
from loadanywhere.kinds import is_integer, is_name, is_row, is_row_of
from loadanywhere.lots import is_from_zero


def read_places(calls):
    """The list of the calls (place, target) that any object is."""
    if not is_row(calls):
        raise BadPlaces(0)
    for index, call in enumerate(calls):
        if not is_row_of(call, 2) or not is_integer(call[0]) or not is_name(call[1]):
            raise BadPlaces(index)
    return [(place, target) for place, target in calls]


def read_rooms(rooms):
    if not is_row(rooms):
        raise BadRooms(0)
    for index, room in enumerate(rooms):
        if not is_integer(room) or (index > 0 and room <= rooms[index - 1]):
            raise BadRooms(index)
    return list(rooms)


def check_hop(reach):
    if not is_from_zero(reach):
        raise BadHop(reach)


def serves(room, place, reach):
    return abs(room - place) <= reach


def numbers_by_targets(calls):
    """The dict from targets, in the order in which they come first, to the numbers of their calls."""
    found = {}
    for index, (_, target) in enumerate(calls):
        found.setdefault(target, []).append(index)
    return found


class Served:
    """Calls, rooms and a reach by which each call has a room."""

    def __init__(self, calls, rooms, reach):
        self.calls = read_places(calls)
        self.rooms = read_rooms(rooms)
        check_hop(reach)
        self.reach = reach

    def check_reach(self):
        for index, (place, _) in enumerate(self.calls):
            if not any([serves(room, place, self.reach) for room in self.rooms]):
                raise OutOfReach(index)

    def stubs(self, numbers):
        """The pairs (room, call) of a target: the stub as far behind as can be, and the first call that needs it."""
        found = []
        for index in sorted(numbers, key=lambda number: self.calls[number][0]):
            place = self.calls[index][0]
            if not found or not serves(found[-1][0], place, self.reach):
                found.append((max([room for room in self.rooms if serves(room, place, self.reach)]), index))
        return found


def fewest_stubs(calls, rooms, reach):
    served = Served(calls, rooms, reach)
    served.check_reach()
    by_targets = numbers_by_targets(served.calls)
    return {target: tuple([room for room, _ in served.stubs(numbers)]) for target, numbers in by_targets.items()}


def calls_apart(calls, rooms, reach):
    served = Served(calls, rooms, reach)
    served.check_reach()
    by_targets = numbers_by_targets(served.calls)
    return {target: tuple(sorted([index for _, index in served.stubs(numbers)]))
            for target, numbers in by_targets.items()}


def are_rooms(rooms, thing):
    return is_row(thing) and all([is_integer(room) and room in rooms for room in thing])


def are_stubs(calls, rooms, reach, thing):
    served = Served(calls, rooms, reach)
    by_targets = numbers_by_targets(served.calls)
    if not isinstance(thing, dict) or len(thing) != len(by_targets):
        return False
    for target in by_targets:
        if target not in thing or not are_rooms(served.rooms, thing[target]):
            return False
    return all([any([serves(room, place, reach) for room in thing[target]]) for place, target in served.calls])


def read_goals(goals, calls):
    """The dict from targets to places that any object is, with the targets of all calls among them."""
    if not isinstance(goals, dict):
        raise BadGoals(None)
    for key in goals:
        if not is_name(key) or not is_integer(goals[key]):
            raise BadGoals(key)
    for _, target in calls:
        if target not in goals:
            raise BadGoals(target)
    return dict(goals)


def chain_between(low, high, rooms, reach):
    """The first of the shortest chains of rooms by which one comes from low to high; None if there is none."""
    between = [room for room in rooms if low < room < high]
    many = {high: 0}
    for room in reversed(between):
        further = [many[other] for other in many if room < other <= room + reach]
        if further:
            many[room] = 1 + min(further)
    further = [many[other] for other in many if other <= low + reach]
    if not further:
        return None
    chain = []
    at = low
    for left in range(min(further), 0, -1):
        at = min([room for room in many if at < room <= at + reach and many[room] == left])
        chain.append(at)
    return tuple(chain)


class Hops:
    """Calls that come to their targets from room to room."""

    def __init__(self, calls, goals, rooms, reach):
        self.calls = read_places(calls)
        self.goals = read_goals(goals, self.calls)
        self.rooms = read_rooms(rooms)
        check_hop(reach)
        self.reach = reach
        for index, (place, target) in enumerate(self.calls):
            if self.chain(place, self.goals[target]) is None:
                raise OutOfReach(index)

    def chain(self, place, goal):
        if place == goal:
            return ()
        return chain_between(min(place, goal), max(place, goal), self.rooms, self.reach)

    def needed(self, target):
        """The rooms of a target: on each side those that the call needs that is farthest away."""
        goal = self.goals[target]
        spots = [place for place, other in self.calls if other == target] + [goal]
        return self.chain(min(spots), goal) + self.chain(max(spots), goal)


def fewest_hops(calls, goals, rooms, reach):
    hops = Hops(calls, goals, rooms, reach)
    return {target: hops.needed(target) for target in numbers_by_targets(hops.calls)}


def way_of(calls, goals, rooms, reach, index):
    hops = Hops(calls, goals, rooms, reach)
    if not is_integer(index) or not 0 <= index < len(hops.calls):
        raise NoCall(index)
    at, target = hops.calls[index]
    goal = hops.goals[target]
    needed = hops.needed(target)
    found = []
    while not serves(at, goal, reach):
        # Of the rooms in reach the one nearest to the target is the farthest hop towards it.
        near = [room for room in needed if serves(room, at, reach) and abs(room - goal) < abs(at - goal)]
        at = min([room for room in near if (room < goal) == (at < goal)], key=lambda room: abs(room - goal))
        found.append(at)
    return tuple(found)
