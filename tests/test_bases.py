"""[47], base_of: spans in their one form."""

import random
import unittest
from fractions import Fraction
from math import gcd

from loadanywhere.bases import base_of
from loadanywhere.errors import BadVector
from tests.helpers import Raising, any_objects


def steps_by_fractions(rows, many):
    """The one form, found by fractions."""
    rows = [[Fraction(number) for number in row] for row in rows]
    found = []
    for column in range(many):
        held = [row for row in rows if row[column] != 0]
        if not held:
            continue
        first = [number / held[0][column] for number in held[0]]
        rows = [[number - row[column] * taken for number, taken in zip(row, first)] for row in rows]
        found = [[number - row[column] * taken for number, taken in zip(row, first)] for row in found] + [first]
    told = []
    for row in found:
        bottom = 1
        for number in row:
            bottom = bottom * number.denominator // gcd(bottom, number.denominator)
        whole = [int(number * bottom) for number in row]
        divisor = 0
        for number in whole:
            divisor = gcd(divisor, number)
        told.append(tuple(number // divisor for number in whole))
    return tuple(told)


class Bases(unittest.TestCase, Raising):
    def test_ordinary(self):
        self.assertEqual(base_of([[2, 4, 6], [1, 1, 1]], 3), ((1, 0, -1), (0, 1, 2)))
        self.assertEqual(base_of([(0, -4, 6)], 3), ((0, 2, -3),))
        self.assertEqual(base_of([], 3), ())
        self.assertEqual(base_of([[0, 0]], 2), ())
        self.assertEqual(base_of([[], ()], 0), ())
        self.assertEqual(base_of(many=1, rows=((-5,),)), ((1,),))
        self.assertEqual(base_of([[2, 1], [0, 3]], 2), ((1, 0), (0, 1)))
        self.assertEqual(base_of([[2, 0, 1], [0, 3, 1]], 3), ((2, 0, 1), (0, 3, 1)))

    def test_beside_fractions(self):
        rng = random.Random(7)
        for _ in range(300):
            many = rng.randint(1, 6)
            most = rng.choice([2, 5, 10 ** 25])
            rows = [[rng.choice([0, 0, rng.randint(-most, most)]) for _ in range(many)]
                    for _ in range(rng.randint(0, 7))]
            self.assertEqual(base_of(rows, many), steps_by_fractions(rows, many))

    def test_the_same_span(self):
        rng = random.Random(8)
        for _ in range(100):
            rows = [[rng.randint(-9, 9) for _ in range(5)] for _ in range(4)]
            base = base_of(rows, 5)
            more = [[3 * one - 7 * other for one, other in zip(rows[0], rows[1])], [-number for number in rows[2]]]
            shuffled = rows + more + rows
            rng.shuffle(shuffled)
            self.assertEqual(base_of(shuffled, 5), base)
            self.assertEqual(base_of(base, 5), base)

    def test_errors(self):
        for thing in any_objects():
            if not isinstance(thing, (list, tuple)):
                self.assert_raises_with(BadVector, {"index": 0}, base_of, thing, 3)
            self.assert_raises_with(BadVector, {"index": 1}, base_of, [[0, 0, 0], thing, None], 3)
            if isinstance(thing, bool) or not isinstance(thing, int):
                self.assert_raises_with(BadVector, {"index": 2}, base_of, [[1], [2], [thing]], 1)
        self.assert_raises_with(BadVector, {"index": 1}, base_of, [[], [0]], 0)

    def test_unchanged(self):
        rows = [[2, 4], [6, 8]]
        base_of(rows, 2)
        self.assertEqual(rows, [[2, 4], [6, 8]])
