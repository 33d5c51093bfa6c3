"""[5], [6]: sums."""

import unittest

from loadanywhere.errors import BadNumber, BadSum, BadWorths
from loadanywhere.sums import address_of, minus, plus, put_in, sum_of, times, unknowns
from tests.helpers import Raising, any_objects, as_lists, at, is_sum_at_sight, named

A, B = ("piece", "a"), ("piece", "b")
N, FIRST = ("name", "a"), ("in", 1)


class SumOf(unittest.TestCase, Raising):
    def test_integers(self):
        for number in (0, 7, -7, 10 ** 60):
            self.assertEqual(sum_of(number), (number, ()))

    def test_parts_in_any_order(self):
        parts = [(("in", 10), 1), (("in", 9), 1), (("name", "b"), 1), (("name", "ab"), 2), (("piece", "z"), 3), (A, 4)]
        told = (5, ((A, 4), (("piece", "z"), 3), (("name", "ab"), 2), (("name", "b"), 1), (("in", 9), 1),
                    (("in", 10), 1)))
        self.assertEqual(sum_of((5, parts)), told)
        self.assertEqual(sum_of((5, parts[::-1])), told)
        self.assertEqual(sum_of(as_lists(told)), told)
        self.assertEqual(sum_of(told), told)

    def test_an_unknown_several_times(self):
        self.assertEqual(sum_of((1, [(A, 2), (B, 1), (A, 3)])), (1, ((A, 5), (B, 1))))
        self.assertEqual(sum_of((1, [(A, 2), (B, 1), (A, -2)])), (1, ((B, 1),)))
        self.assertEqual(sum_of((0, [(A, 0)])), (0, ()))
        self.assertEqual(sum_of((0, [(["piece", "a"], 1), (A, 1)])), (0, ((A, 2),)))

    def test_tuples_throughout(self):
        found = sum_of([1, [[["piece", "a"], 2]]])
        self.assertIsInstance(found, tuple)
        self.assertIsInstance(found[1], tuple)
        self.assertIsInstance(found[1][0], tuple)
        self.assertIsInstance(found[1][0][0], tuple)

    def test_no_sums(self):
        for thing in any_objects():
            if not is_sum_at_sight(thing):
                self.assert_raises_with(BadSum, {"thing": thing}, sum_of, thing)

    def test_no_sums_deep_inside(self):
        for part in [(A, True), (A, "1"), (A,), (A, 1, 1), A, None, (("piece", "A"), 1), (("piece", ""), 1),
                     (("piece", "abcdefghi"), 1), (("piece", 1), 1), (("in", 0), 1), (("in", -1), 1), (("in", True), 1),
                     (("in", "a"), 1), (("out", 1), 1), (([], 1), 1), (("piece", []), 1), ("ab", 1), (("piece",), 1)]:
            for thing in ((1, (part,)), [1, [(A, 1), part]]):
                self.assert_raises_with(BadSum, {"thing": thing}, sum_of, thing)
        for thing in ((True, ()), (1, {}), (1, None), (1,), (1, (), ()), ("1", ())):
            self.assert_raises_with(BadSum, {"thing": thing}, sum_of, thing)

    def test_by_name(self):
        self.assertEqual(sum_of(thing=3), (3, ()))

    def test_what_is_passed_does_not_change(self):
        thing = [1, [[["piece", "b"], 2], [["piece", "a"], 0]]]
        sum_of(thing)
        self.assertEqual(thing, [1, [[["piece", "b"], 2], [["piece", "a"], 0]]])


class Reckoned(unittest.TestCase, Raising):
    def test_plus_minus_times(self):
        one, other = (3, [(B, 1), (A, 2)]), (4, [(A, -2), (N, 1), (FIRST, 7)])
        self.assertEqual(plus(one, other), (7, ((B, 1), (N, 1), (FIRST, 7))))
        self.assertEqual(minus(one, other), (-1, ((A, 4), (B, 1), (N, -1), (FIRST, -7))))
        self.assertEqual(minus(one, one), (0, ()))
        self.assertEqual(times(one, -2), (-6, ((A, -4), (B, -2))))
        self.assertEqual(times(one, 0), (0, ()))
        self.assertEqual(plus(1, 2), (3, ()))
        self.assertEqual(minus(other=1, one=5), (4, ()))
        self.assertEqual(plus(other=1, one=5), (6, ()))
        self.assertEqual(times(number=3, one=at("a")), (0, ((A, 3),)))

    def test_errors(self):
        for thing in any_objects():
            if is_sum_at_sight(thing):
                continue
            for call in (plus, minus):
                self.assert_raises_with(BadSum, {"thing": thing}, call, thing, [])
                self.assert_raises_with(BadSum, {"thing": thing}, call, 0, thing)
            self.assert_raises_with(BadSum, {"thing": thing}, times, thing, None)
            self.assert_raises_with(BadSum, {"thing": thing}, put_in, thing, None)
            self.assert_raises_with(BadSum, {"thing": thing}, unknowns, thing)
            self.assert_raises_with(BadSum, {"thing": thing}, address_of, thing)
        for thing in any_objects():
            if isinstance(thing, bool) or not isinstance(thing, int):
                self.assert_raises_with(BadNumber, {"number": thing}, times, 1, thing)

    def test_put_in_at_once(self):
        one = (1, ((A, 1), (B, 2), (N, 3)))
        self.assertEqual(put_in(one, {A: at("b", 10), B: at("a", 100)}), (211, ((A, 2), (B, 1), (N, 3))))
        self.assertEqual(put_in(one, {A: (5, [(A, 2)])}), (6, ((A, 2), (B, 2), (N, 3))))
        self.assertEqual(put_in(one, {N: (0, [(A, -1), (FIRST, 1)]), A: 3 * 10 ** 40}),
                         (1 + 3 * 10 ** 40, ((A, -3), (B, 2), (FIRST, 3))))
        self.assertEqual(put_in(one, {}), one)
        self.assertEqual(put_in(worths={("in", 7): 1}, one=one), one)
        self.assertEqual(put_in(one, {A: [2, [[["name", "a"], 1]]]}), (3, ((B, 2), (N, 4))))

    def test_bad_worths(self):
        for thing in any_objects():
            if not isinstance(thing, dict):
                self.assert_raises_with(BadWorths, {"key": None}, put_in, 1, thing)
            if not is_sum_at_sight(thing):
                self.assert_raises_with(BadWorths, {"key": B}, put_in, 1, {A: 1, B: thing, "x": 1})
        for key in ["a", 1, None, True, (), ("piece",), ("piece", "A"), ("in", 0), ("in", True), ("in", 1, 1), ("x", "a")]:
            self.assert_raises_with(BadWorths, {"key": key}, put_in, 1, {A: 1, key: 1, B: None})

    def test_unknowns(self):
        self.assertEqual(unknowns(4), ())
        self.assertEqual(unknowns((4, [(FIRST, 1), (N, 2), (B, 1), (A, 1), (B, -1)])), (A, N, FIRST))
        self.assertEqual(unknowns(one=at("a")), (A,))

    def test_addresses(self):
        self.assertEqual(address_of(at("a", 5)), ("a", 5))
        self.assertEqual(address_of(one=at("b", -5)), ("b", -5))
        self.assertEqual(address_of([3, [[A, 2], [A, -1]]]), ("a", 3))
        for thing in (0, named("a"), (0, [(A, 2)]), (0, [(A, -1)]), (0, [(A, 1), (B, 1)]), (0, [(FIRST, 1)]),
                      (0, [(A, 1), (N, 1)])):
            self.assertIsNone(address_of(thing))
