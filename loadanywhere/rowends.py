"""Where rows of pieces end, for all lots of them, and the orders in which they end first or call each other nearest."""

from itertools import combinations

from loadanywhere.errors import BadCalls
from loadanywhere.kinds import is_integer, is_row_of
from loadanywhere.lots import check_begin, end_behind, is_from_zero, read_lot


def without(some, index):
    return tuple([other for other in some if other != index])


def least_ends(pairs, begin):
    """The dict, in the order of choices, from tuples of numbers of pieces to the least end of a row of just these.

    A lesser end ahead is never worse, so it is enough to know the least one of what stands ahead.
    """
    found = {(): begin}
    for many in range(1, len(pairs) + 1):
        for some in combinations(list(range(len(pairs))), many):
            found[some] = min([end_behind(pairs[index], found[without(some, index)]) for index in some])
    return found


def latest_begins(pairs, end):
    """The dict from tuples of numbers of pieces to the greatest number from which a row of just these ends at end."""
    found = {(): end}
    for many in range(1, len(pairs) + 1):
        for some in combinations(list(range(len(pairs))), many):
            lasts = [(found[without(some, index)] - pairs[index][0], pairs[index][1]) for index in some]
            found[some] = max([last // stride * stride for last, stride in lasts])
    return found


def ends(lot, begin=0):
    pieces = read_lot(lot)
    check_begin(begin)
    return least_ends(list(pieces.values()), begin)


def are_plain(thing):
    """Whether the keys of a dict are tuples of integers, and its worths integers."""
    for key in thing:
        if not isinstance(key, tuple) or not all([is_integer(index) for index in key]):
            return False
    return all([is_integer(worth) for worth in thing.values()])


def shows_ends(lot, begin, thing):
    right = ends(lot, begin)
    return isinstance(thing, dict) and are_plain(thing) and thing == right


def shortest_row(pairs, begin):
    """The pair (order, end) of the row that ends first, of these the first one, the order by numbers of pieces."""
    left = tuple(list(range(len(pairs))))
    last = least_ends(pairs, begin)[left]
    begins = latest_begins(pairs, last)
    order = []
    end = begin
    while left:
        fitting = [index for index in left if end_behind(pairs[index], end) <= begins[without(left, index)]]
        order.append(fitting[0])
        end = end_behind(pairs[fitting[0]], end)
        left = without(left, fitting[0])
    return (tuple(order), last)


def shortest(lot, begin=0):
    pieces = read_lot(lot)
    check_begin(begin)
    names = list(pieces)
    order, end = shortest_row(list(pieces.values()), begin)
    return (tuple([names[index] for index in order]), end)


def read_calls(names, calls):
    """The dict from pairs of numbers of names to weights that any object is."""
    if not isinstance(calls, dict):
        raise BadCalls(None)
    found = {}
    for key in calls:
        right = is_row_of(key, 2) and key[0] in names and key[1] in names and key[0] != key[1]
        if not right or not is_from_zero(calls[key]):
            raise BadCalls(key)
        found[(names.index(key[0]), names.index(key[1]))] = calls[key]
    return found


def passed_over(calls, ahead, behind):
    """The weight of the calls between pieces ahead and pieces behind."""
    found = 0
    for (one, other), weight in calls.items():
        if (one in ahead and other in behind) or (other in ahead and one in behind):
            found += weight
    return found


def least_costs(lengths, calls):
    """The dict from tuples of pieces that are left to the least cost that they make behind all others."""
    every = tuple(list(range(len(lengths))))
    found = {(): 0}
    for many in range(1, len(lengths) + 1):
        for left in combinations(list(range(len(lengths))), many):
            ahead = [index for index in every if index not in left]
            found[left] = min([cost_of(lengths, calls, ahead, left, index) + found[without(left, index)]
                               for index in left])
    return found


def cost_of(lengths, calls, ahead, left, index):
    """What a piece costs that comes next: all calls over it from pieces ahead to those that are left."""
    return lengths[index] * passed_over(calls, ahead, without(left, index))


def nearest(lot, calls):
    pieces = read_lot(lot)
    names = list(pieces)
    weights = read_calls(names, calls)
    lengths = [length for length, _ in pieces.values()]
    costs = least_costs(lengths, weights)
    left = tuple(list(range(len(names))))
    order = []
    while left:
        best = [index for index in left
                if cost_of(lengths, weights, order, left, index) + costs[without(left, index)] == costs[left]]
        order.append(best[0])
        left = without(left, best[0])
    return (tuple([names[index] for index in order]), costs[tuple(list(range(len(names))))])
