"""Sums: a number and whole multiples of unknowns, in one form."""

from loadanywhere.errors import BadNumber, BadSum, BadWorths
from loadanywhere.kinds import is_integer, is_name, is_row, is_row_of

RANKS = {"piece": 0, "name": 1, "in": 2}


def read_unknown(thing):
    """Any object as an unknown; None if it is none."""
    if not is_row_of(thing, 2):
        return None
    kind, of = thing
    if not isinstance(kind, str) or kind not in RANKS:
        return None
    if kind == "in":
        right = is_integer(of) and of >= 1
    else:
        right = is_name(of)
    return (kind, of) if right else None


def order_of(unknown):
    """Pieces stand ahead of names, names ahead of numbers handed in."""
    return (RANKS[unknown[0]], unknown[1])


def one_form(number, multiples):
    """The sum of a number and a dict from unknowns to multiples, 0 among them."""
    held = sorted([unknown for unknown in multiples if multiples[unknown] != 0], key=order_of)
    return (number, tuple([(unknown, multiples[unknown]) for unknown in held]))


def read_sum(thing):
    """Any object as a sum; None if it is none."""
    if is_integer(thing):
        return (thing, ())
    if not is_row_of(thing, 2) or not is_integer(thing[0]) or not is_row(thing[1]):
        return None
    multiples = {}
    for part in thing[1]:
        if not is_row_of(part, 2) or not is_integer(part[1]):
            return None
        unknown = read_unknown(part[0])
        if unknown is None:
            return None
        multiples[unknown] = multiples.get(unknown, 0) + part[1]
    return one_form(thing[0], multiples)


def sum_of(thing):
    found = read_sum(thing)
    if found is None:
        raise BadSum(thing)
    return found


def sum_at(address):
    """The sum of an address."""
    return (address[1], ((("piece", address[0]), 1),))


def with_times(one, other, many):
    """One and so many times other, both in the one form already."""
    multiples = {unknown: multiple for unknown, multiple in one[1]}
    for unknown, multiple in other[1]:
        multiples[unknown] = multiples.get(unknown, 0) + many * multiple
    return one_form(one[0] + many * other[0], multiples)


def plus(one, other):
    first = sum_of(one)
    return with_times(first, sum_of(other), 1)


def minus(one, other):
    first = sum_of(one)
    return with_times(first, sum_of(other), -1)


def times(one, number):
    found = sum_of(one)
    if not is_integer(number):
        raise BadNumber(number)
    return with_times((0, ()), found, number)


def read_worths(worths):
    """The dict from unknowns to sums that a dict of worths tells."""
    if not isinstance(worths, dict):
        raise BadWorths(None)
    found = {}
    for key in worths:
        unknown = read_unknown(key)
        worth = read_sum(worths[key])
        if unknown is None or worth is None:
            raise BadWorths(key)
        found[unknown] = worth
    return found


def with_worths(one, worths):
    """One with the sums of worths put in at once; all are in the one form already."""
    number = one[0]
    multiples = {}
    for unknown, multiple in one[1]:
        worth = worths.get(unknown, (0, ((unknown, 1),)))
        number += multiple * worth[0]
        for inner, many in worth[1]:
            multiples[inner] = multiples.get(inner, 0) + multiple * many
    return one_form(number, multiples)


def put_in(one, worths):
    found = sum_of(one)
    return with_worths(found, read_worths(worths))


def unknowns(one):
    return tuple([unknown for unknown, _ in sum_of(one)[1]])


def address_in(one):
    """The address whose sum is in the one form already; None if it is none."""
    number, parts = one
    if len(parts) != 1 or parts[0][1] != 1 or parts[0][0][0] != "piece":
        return None
    return (parts[0][0][1], number)


def address_of(one):
    return address_in(sum_of(one))


def worth_at(one, places):
    """The number that a sum of pieces alone is worth at these places."""
    return one[0] + sum([multiple * places[unknown[1]] for unknown, multiple in one[1]])
