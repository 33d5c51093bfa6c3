"""[24], [25], [26]: dumps."""

import itertools
import random
import unittest

from loadanywhere.bases import base_of
from loadanywhere.dumps import (
    Dumps, known_at, least_settling, more_dumps, only_sum, settles, sure_parts, told_back,
)
from loadanywhere.errors import BadDump, BadPieces, BadPlacing, Gap, NoSum, NoWord, Open
from tests.helpers import Raising, any_objects, at, has_lists_within
from tests.naive import worth

A, B = ("piece", "a"), ("piece", "b")
SUMS = {("a", 0): (5, ((A, 1),)), ("a", 1): (-3, ((A, 2), (B, -7))), ("b", 0): (9, ())}


def dump_of(places, sums):
    return (places, {address: worth(one, {("piece", p): place for p, place in places.items()})
                     for address, one in sums.items()})


def dumps_of(placings, sums=SUMS, pieces=("a", "b")):
    return Dumps(pieces, [dump_of(dict(zip(pieces, places)), sums) for places in placings])


class AllDumps(unittest.TestCase, Raising):
    def test_what_it_tells(self):
        rows = [({"b": 1, "a": 2}, {("b", 5): 1, ("a", 9): 2, ("a", -3): 3}),
                [{"a": 2, "b": 9}, {("a", -3): 0, ("b", 5): 1, ("a", 9): 2}]]
        dumps = Dumps(["a", "b"], rows)
        self.assertEqual(dumps.parts, ("a", "b"))
        self.assertEqual(dumps.addresses(), [("a", -3), ("a", 9), ("b", 5)])
        self.assertEqual(dumps.rows(), [tuple(row) for row in rows])
        self.assertIsInstance(dumps.rows()[1], tuple)
        self.assertEqual(Dumps(pieces=("b", "a"), rows=rows).addresses(), [("b", 5), ("a", -3), ("a", 9)])
        self.assertEqual(Dumps(["a"], [({"a": 0}, {})]).addresses(), [])

    def test_changed_behind(self):
        rows = [({"a": 2}, {("a", 0): 1})]
        dumps = Dumps(["a"], rows)
        rows[0][0]["a"] = 7
        rows[0][1].clear()
        dumps.rows()[0][0].clear()
        dumps.rows()[0][1].clear()
        dumps.addresses().clear()
        self.assertEqual(dumps.rows(), [({"a": 2}, {("a", 0): 1})])
        self.assertEqual(dumps.addresses(), [("a", 0)])

    def test_bad_pieces(self):
        for thing in any_objects():
            if not isinstance(thing, (list, tuple)) or len(thing) == 0:
                self.assert_raises_with(BadPieces, {"index": 0}, Dumps, thing, None)
            self.assert_raises_with(BadPieces, {"index": 1}, Dumps, ["a", thing, None], None)

    def test_bad_dumps(self):
        good = ({"a": 0, "b": 1}, {("a", 0): 4})
        bad = [({"a": 0}, {("a", 0): 4}), ({"a": 0, "b": 1, "c": 2}, {("a", 0): 4}), ({"a": 0, "b": True}, {("a", 0): 4}),
               ({"a": 0, "c": 1}, {("a", 0): 4}), ({"a": 0, "b": 1}, {("a", 0): None}), ({"a": 0, "b": 1}, {}),
               ({"a": 0, "b": 1}, {("a", 1): 4}), ({"a": 0, "b": 1}, {("a", 0): 4, ("a", 1): 4}),
               ({"a": 0, "b": 1}, [(("a", 0), 4)]), ({"a": 0, "b": 1}, {("a", False): 4}), good[:1], good + (1,),
               (None, {("a", 0): 4}), ([("a", 0), ("b", 1)], {("a", 0): 4}), ({"a": "0", "b": 1}, {("a", 0): 4})]
        for thing in any_objects() + bad:
            self.assert_raises_with(BadDump, {"index": 1}, Dumps, ["a", "b"], [good, thing, None])
            if not isinstance(thing, (list, tuple)) or len(thing) == 0:
                self.assert_raises_with(BadDump, {"index": 0}, Dumps, ["a", "b"], thing)
        for address in ("a", ("c", 0), ("a",), ("a", "0"), ("a", True), 5, None):
            self.assert_raises_with(BadDump, {"index": 0}, Dumps, ["a"], [({"a": 0}, {address: 4})])

    def test_equality(self):
        dumps = dumps_of([(0, 5), (100, 7)])
        self.assertTrue(dumps == dumps_of([[0, 5], [100, 7]]))
        self.assertFalse(dumps != dumps_of([(0, 5), (100, 7)]))
        self.assertFalse(dumps == dumps_of([(100, 7), (0, 5)]))
        self.assertFalse(dumps == Dumps(["b", "a"], dumps.rows()))
        self.assertFalse(dumps == dumps_of([(0, 5)]))
        for thing in any_objects() + [dumps.rows()]:
            self.assertFalse(dumps == thing)


class ToldOfAWord(unittest.TestCase, Raising):
    def test_settled(self):
        dumps = dumps_of([(0, 5), (100, 7), (3, 1000)])
        for address, one in SUMS.items():
            self.assertEqual(only_sum(dumps, *address), one)
            self.assertEqual(known_at(dumps, *address), (one[0], {"a": dict(one[1]).get(A, 0), "b": dict(one[1]).get(B, 0)}))
        self.assertEqual(only_sum(k=0, p="b", dumps=dumps), (9, ()))
        self.assertFalse(has_lists_within(only_sum(dumps, "a", 1)))

    def test_no_word(self):
        dumps = dumps_of([(0, 5)])
        for call in (only_sum, known_at):
            for thing in any_objects():
                self.assert_raises_with(NoWord, {"p": thing, "k": thing}, call, dumps, thing, thing)
                if isinstance(thing, bool) or thing not in (0, 1):
                    self.assert_raises_with(NoWord, {"p": "a", "k": thing}, call, dumps, "a", thing)
            self.assert_raises_with(NoWord, {"p": "b", "k": 1}, call, dumps, "b", 1)

    def test_open(self):
        dumps = dumps_of([(0, 5), (100, 5)])
        self.assert_raises_with(Open, {"p": "a", "k": 1}, only_sum, dumps, "a", 1)
        self.assertEqual(known_at(dumps, "a", 1), (None, {"a": 2, "b": None}))
        self.assertEqual(known_at(k=1, p="a", dumps=dumps_of([(0, 0)])), (-3, {"a": None, "b": None}))
        self.assertEqual(list(known_at(Dumps(["b", "a"], dumps.rows()), "a", 1)[1]), ["b", "a"])

    def test_no_sum(self):
        # No whole multiple makes 3 of a move by 2, though a fraction does.
        dumps = Dumps(["a"], [({"a": 0}, {("a", 0): 0}), ({"a": 2}, {("a", 0): 3})])
        self.assert_raises_with(NoSum, {"p": "a", "k": 0}, only_sum, dumps, "a", 0)
        self.assert_raises_with(NoSum, {"p": "a", "k": 0}, known_at, dumps, "a", 0)
        # With another piece that moves by 1 there are several that fit.
        dumps = Dumps(["a", "b"], [({"a": 0, "b": 0}, {("a", 0): 0}), ({"a": 2, "b": 3}, {("a", 0): 1})])
        self.assert_raises_with(Open, {"p": "a", "k": 0}, only_sum, dumps, "a", 0)
        self.assertEqual(known_at(dumps, "a", 0), (0, {"a": None, "b": None}))
        # Two dumps at one placing that differ: nothing fits.
        dumps = Dumps(["a"], [({"a": 4}, {("a", 0): 0}), ({"a": 4}, {("a", 0): 1})])
        self.assert_raises_with(NoSum, {"p": "a", "k": 0}, known_at, dumps, "a", 0)
        # 2a + 4b cannot come to 1 by whole multiples, however free they are.
        dumps = Dumps(["a", "b"], [({"a": 0, "b": 0}, {("a", 0): 0}), ({"a": 2, "b": 4}, {("a", 0): 1})])
        self.assert_raises_with(NoSum, {"p": "a", "k": 0}, only_sum, dumps, "a", 0)

    def test_beside_all_small_sums(self):
        rng = random.Random(5)
        for _ in range(100):
            placings = [{"a": rng.randint(-2, 2), "b": rng.randint(-2, 2)} for _ in range(rng.randint(1, 3))]
            words = [rng.randint(-2, 2) for _ in placings]
            dumps = Dumps(["a", "b"], [(places, {("a", 0): word}) for places, word in zip(placings, words)])
            fits = [row for row in itertools.product(range(-16, 17), repeat=3)
                    if all(row[0] + row[1] * places["a"] + row[2] * places["b"] == word
                           for places, word in zip(placings, words))]
            if not fits:
                self.assert_raises_with(NoSum, {"p": "a", "k": 0}, known_at, dumps, "a", 0)
                continue
            sure = [column[0] if len(set(column)) == 1 else None for column in zip(*fits)]
            self.assertEqual(known_at(dumps, "a", 0), (sure[0], {"a": sure[1], "b": sure[2]}))


class Placings(unittest.TestCase, Raising):
    def test_settles(self):
        self.assertIs(settles([{"a": 0}, {"a": 1}]), True)
        self.assertIs(settles([{"a": 3}, {"a": 3}]), False)
        self.assertIs(settles(places=({"a": 0, "b": 0}, {"b": 1, "a": 1}, {"a": 2, "b": 2})), False)
        self.assertIs(settles([{"a": 0, "b": 0}, {"b": 1, "a": 1}, {"a": 2, "b": 3}]), True)

    def test_sure_parts(self):
        self.assertEqual(sure_parts([{"b": 0, "a": 0}]), [0])
        self.assertEqual(sure_parts([{"b": 0, "a": 5}]), [])
        self.assertEqual(sure_parts([{"b": 0, "a": 5}, {"a": 7, "b": 0}]), [0, ("piece", "a")])
        self.assertEqual(sure_parts([{"b": 1, "a": 5}, {"a": 7, "b": 1}]), [("piece", "a")])
        self.assertEqual(sure_parts(places=[{"b": 0, "a": 0}, {"b": 1, "a": 0}, {"b": 0, "a": 4}]), [0, B, A])

    def test_more_dumps(self):
        self.assertEqual(more_dumps([{"a": 0, "b": 0}]), 2)
        self.assertEqual(more_dumps(places=[{"a": 0, "b": 0}, {"a": 9, "b": 9}, {"a": -9, "b": -9}]), 1)
        self.assertEqual(more_dumps([{"a": 0}, {"a": 1}, {"a": 2}]), 0)

    def test_least_settling(self):
        self.assertEqual(least_settling([{"a": 4}, {"a": 4}, {"a": 5}]), [(0, 2), (1, 2)])
        self.assertEqual(least_settling(places=[{"a": 4}, {"a": 4}]), [(0,), (1,)])

    def test_beside_all_lots(self):
        rng = random.Random(6)
        for _ in range(120):
            names = "abc"[:rng.randint(1, 3)]
            places = [{p: rng.randint(-1, 2) for p in names} for _ in range(rng.randint(1, 6))]
            rows = [[1] + list(placing.values()) for placing in places]
            base = base_of(rows, len(names) + 1)
            lots = [lot for many in range(len(rows) + 1) for lot in itertools.combinations(range(len(rows)), many)
                    if base_of([rows[index] for index in lot], len(names) + 1) == base]
            fewest = [lot for lot in lots if len(lot) == len(lots[0])]
            self.assertEqual(least_settling(places), fewest)
            for lot in fewest:
                self.assertEqual(sure_parts([places[index] for index in lot]), sure_parts(places))
            self.assertEqual(settles(places), len(base) == len(names) + 1)
            self.assertEqual(more_dumps(places), len(names) + 1 - len(base))
            self.assertEqual(settles(places), len(sure_parts(places)) == len(names) + 1)

    def test_more_dumps_do(self):
        rng = random.Random(9)
        for _ in range(40):
            places = [{p: rng.randint(0, 2) for p in "abc"} for _ in range(rng.randint(1, 4))]
            more = [{p: rng.randint(0, 10 ** 9) for p in "abc"} for _ in range(more_dumps(places))]
            self.assertTrue(settles(places + more))
            if more:
                self.assertFalse(settles(places + more[1:]))

    def test_bad_placings(self):
        bad = [{}, {"a": 1}, {"a": 1, "b": 2, "c": 3}, {"a": 1, "c": 2}, {"a": 1, "b": True}, {"a": 1, "b": None}]
        for call in (settles, sure_parts, more_dumps, least_settling):
            for thing in any_objects() + bad:
                self.assert_raises_with(BadPlacing, {"index": 1}, call, [{"b": 0, "a": 0}, thing, None])
                if not isinstance(thing, (list, tuple)) or len(thing) == 0:
                    self.assert_raises_with(BadPlacing, {"index": 0}, call, thing)
            for first in ({}, {"A": 1}, {1: 1}, {"a": True}, {("a", 0): 1}, None):
                self.assert_raises_with(BadPlacing, {"index": 0}, call, [first, {"a": 1}])


class ToldBack(unittest.TestCase, Raising):
    def test_ordinary(self):
        dumps = dumps_of([(0, 5), (100, 7), (3, 1000)])
        self.assertEqual(told_back(dumps), [("a", "data", (SUMS[("a", 0)], SUMS[("a", 1)])), ("b", "data", (SUMS[("b", 0)],))])
        self.assertEqual(told_back(dumps=Dumps(["c"], [({"c": 0}, {})])), [("c", "data", ())])

    def test_random_images(self):
        rng = random.Random(11)
        for _ in range(40):
            sums = {(p, k): (rng.randint(-9, 9), tuple((("piece", q), rng.choice([-2, 1, 10 ** 20])) for q in "abc"
                                                       if rng.random() < 0.5)) for p in "abc" for k in range(3)}
            placings = [[rng.randint(0, 10 ** 6) for _ in "abc"] for _ in range(5)]
            found = told_back(dumps_of(placings, sums, ("a", "b", "c")))
            self.assertEqual(found, [(p, "data", tuple(sums[(p, k)] for k in range(3))) for p in "abc"])

    def test_errors_in_order(self):
        def dumps(words, placings=(0, 2)):
            return Dumps(["a", "b"], [({"a": place, "b": 0}, {address: row[index] for address, row in words.items()})
                                      for index, place in enumerate(placings)])
        gap = {("a", 0): (0, 1), ("b", 1): (0, 0)}
        self.assert_raises_with(Gap, {"p": "b"}, told_back, dumps(gap))
        self.assert_raises_with(Gap, {"p": "a"}, told_back, dumps({**gap, ("a", 2): (0, 0)}))
        self.assert_raises_with(Gap, {"p": "a"}, told_back, dumps({("a", -1): (0, 0), ("a", 0): (0, 0)}))
        self.assert_raises_with(NoSum, {"p": "a", "k": 1}, told_back,
                                dumps({("a", 0): (0, 2), ("a", 1): (0, 1), ("b", 0): (0, 1)}))
        self.assert_raises_with(Open, {"p": "a", "k": 0}, told_back, dumps({("a", 0): (0, 2), ("b", 0): (4, 0)}))
        self.assertEqual(at("a"), (0, ((A, 1),)))
