"""[51], [52]: what surely holds at a stand, and what of it is needed."""

import unittest

from loadanywhere.bases import base_of
from loadanywhere.errors import BadField, BadVector, NoStand
from loadanywhere.images import Image
from loadanywhere.oneforms import one_form
from loadanywhere.partings import looks_at_places
from loadanywhere.sures import least_held, needed_sums, span_at, sure_sums, sure_value, surely
from loadanywhere.walks import talking_stands
from loadanywhere.words import coded
from tests.alikes import (
    ADD, ASK, COPY, GO, LESS, SET, TAKE, TELL, found_by_chance, image, is_in_span, naive_spans, rank, summing,
    summing_in_words,
)
from tests.helpers import Raising, any_objects, as_lists, at
from tests.naive import naive_free, seeded

NONE = (None,) * 8


def unit(many, *columns):
    return tuple(int(k in columns) for k in range(many))


class Spans(unittest.TestCase, Raising):
    def test_by_hand(self):
        one = summing()
        self.assertEqual(span_at(one, (("c", 0), NONE)), tuple(unit(11, k) for k in (0, 1, 2, 4, 5)))
        # In words: twice the sum in x, the sum in r3, what was taken last in r0, what is told in r4.
        words = summing_in_words()
        stand = talking_stands(words)[0][1]
        self.assertEqual(stand[0], ("m", 2))
        base = span_at(stand=as_lists(stand), image=words)
        self.assertEqual(len(base), 5)
        self.assertTrue(is_in_span(base, (0, 0, 0, 1, 0, 0, 0, 0, 0, 0, 0)))
        self.assertTrue(is_in_span(base, (0, 0, 0, 0, 0, 0, 1, 1, 0, 0, 2)))

    def test_silent(self):
        one = image([coded(SET, 1), at("d"), coded(ADD, 1, 1), coded(GO, 0, 0, -1)])
        self.assertEqual(span_at(one, ["silent"]), tuple(unit(3, k) for k in range(3)))
        self.assertEqual(sure_sums(one, ("silent",)), ())
        self.assertIsNone(sure_value(one, ("silent",), 0))
        self.assertEqual(needed_sums(one, ("silent",)), ())
        self.assertEqual(least_held(one, ("silent",)), 0)
        self.assertTrue(surely(one, ("silent",), [0, 0, 0]))

    def test_beside_free_runs(self):
        rng = seeded(80)
        equal = 0
        for _ in range(25):
            one = found_by_chance(rng)
            found, _, rest = naive_spans(one, 5)
            for stand, rows in found.items():
                base = span_at(one, stand)
                self.assertEqual(rank(list(base) + rows), len(base))
                if not rest:
                    self.assertEqual(rank(rows), len(base))
                equal += rank(rows) == len(base)
                self.check_sums(one, stand, base)
                self.check_values(one, stand, rows)
        self.assertGreater(equal, 30)

    def check_sums(self, one, stand, base):
        sums = sure_sums(one, stand)
        many = len(base[0])
        self.assertEqual(len(sums), many - len(base))
        self.assertEqual(rank(sums), len(sums))
        for factors in sums:
            self.assertTrue(all(sum(a * b for a, b in zip(factors, row)) == 0 for row in base))
            self.assertTrue(surely(one, stand, list(factors)))
            bent = [factor + int(index == 0) for index, factor in enumerate(factors)]
            self.assertFalse(surely(one, stand, bent))

    def check_values(self, one, stand, rows):
        """Rows of free runs come as many as there are unknowns: that of 1, of the places, of numbers handed in."""
        names = [p for p, _, _ in one.pieces()]
        for x in range(8):
            told = sure_value(one, stand, x)
            mark = stand[1][x]
            if mark is not None:
                self.assertEqual(told, at(*mark))
                continue
            column = 1 + len(names) + sum(other is None for other in stand[1][:x])
            if told is not None:
                parts = {unknown[1]: multiple for unknown, multiple in told[1]}
                for row in rows:
                    worth = told[0] * row[0] + sum(parts.get(p, 0) * place for p, place in zip(names, row[1:]))
                    self.assertEqual(row[column], worth)

    def test_sure_values_by_hand(self):
        words = [coded(SET, 1), at("d", 3), coded(ADD, 2, 1), coded(ADD, 2, 1), coded(TAKE, 3), coded(LESS, 4, 2),
                 coded(COPY, 5, 3), coded(ASK, 0, 0, 3), coded(SET, 6), 4, coded(TELL), coded(0)]
        one = image(words, [0])
        stand = [stand for _, stand in talking_stands(one) if stand[0] == ("c", 10)]
        self.assertEqual([sure_value(one, stand[0], x) for x in range(7)],
                         [(0, ()), (3, ((("piece", "d"), 1),)), (6, ((("piece", "d"), 2),)), None,
                          (-6, ((("piece", "d"), -2),)), None, None])
        self.assertEqual(sure_value(x=7, stand=stand[0], image=one), (0, ()))

    def test_a_mean_of_two_numbers_is_not_sure(self):
        words = [coded(ASK, 0, 0, 2), coded(SET, 1), 3, coded(TELL, 1), coded(0)]
        one = image(words)
        tell = (("c", 3), NONE)
        self.assertIsNone(sure_value(one, tell, 1))
        self.assertEqual(sure_value(one, tell, 2), (0, ()))


class Needed(unittest.TestCase, Raising):
    def test_by_hand(self):
        one = summing()
        take, tell = (("c", 0), NONE), (("c", 2), NONE)
        # What is told later is the sum, and numbers handed in.
        self.assertEqual(needed_sums(one, tell), (unit(11, 0), unit(11, 5)))
        self.assertEqual(needed_sums(stand=take, image=one), (unit(11, 0), unit(11, 5)))
        self.assertEqual(least_held(one, take), 2)
        self.assertEqual(least_held(stand=tell, image=one), 2)
        words = summing_in_words()
        stand = talking_stands(words)[0][1]
        needed = needed_sums(words, stand)
        # x less r3, and 1, and that r0 is not needed.
        self.assertEqual(needed, (unit(11, 0), (0,) * 6 + (1, 0, 0, 0, -1)))
        self.assertEqual(least_held(words, stand), 2)

    def test_without_numbers_handed_in_1_is_not_needed(self):
        one = image([coded(TAKE, 1), coded(ASK, 0, 0, 2), coded(TAKE, 2), coded(TELL, 1), coded(0)])
        stands = {stand[0]: stand for _, stand in talking_stands(one)}
        self.assertEqual(needed_sums(one, stands[("c", 0)]), (unit(11, 0),))
        self.assertEqual(needed_sums(one, stands[("c", 1)]), (unit(11, 4),))
        self.assertEqual(needed_sums(one, stands[("c", 4)]), ())
        self.assertEqual([least_held(one, stands[("c", k)]) for k in (0, 1, 3, 4)], [1, 1, 1, 0])

    def test_numbers_that_are_put_in_later(self):
        one = image([coded(ASK, 0, 0, 0), coded(SET, 1), 5, coded(ADD, 1, 2), coded(SET, 3), at("d"), coded(ADD, 1, 3),
                     coded(TELL, 1), coded(0)])
        start = talking_stands(one)[0][1]
        self.assertEqual(needed_sums(one, start), ((5, 0, 1, 0, 0, 1, 0, 0, 0, 0, 0),))
        self.assertEqual(least_held(one, start), 1)

    def test_numbers_that_are_kept_beside_new_ones(self):
        one = image([coded(ASK, 0, 0, 0), coded(COPY, 2, 3), coded(TAKE, 4), coded(ADD, 1, 2), coded(TELL, 1), coded(0)])
        start = talking_stands(one)[0][1]
        self.assertEqual(needed_sums(one, start), (unit(11, 4, 6),))

    def test_an_address_is_told_by_its_sum(self):
        one = image([coded(SET, 1), at("d", 9), coded(TELL, 1), coded(0)])
        tell = talking_stands(one)[0][1]
        self.assertEqual(needed_sums(one, tell), ((9, 0, 1) + (0,) * 7,))

    def naive_needed(self, one, stand, depth):
        """The rows by which numbers are told behind a stand, by rows of truths of some length; the rows that are left.

        What is held there is put in as numbers handed in, from 1001 on.
        """
        names = [p for p, _, _ in one.pieces()]
        addresses = [(p, k) for p, kind, some in one.pieces() if kind == "data" for k in range(len(some))]
        values = [("number", (0, ((("in", 1001 + index), 1),))) if mark is None else ("at",) + mark
                  for index, mark in enumerate(stand[1])]
        held = [("in", 1001 + index) for index, mark in enumerate(stand[1]) if mark is None]
        begin = (stand[0], values[:8], dict(zip(addresses, values[8:])))
        found = []
        rows = [()]
        for _ in range(depth):
            newer = []
            for row in rows:
                events = naive_free(one, list(row), None, 100, begin)[0]
                for event in events:
                    if event[0] == "tell":
                        parts = dict(event[1][1])
                        found.append([event[1][0]] + [parts.pop(("piece", p), 0) for p in names]
                                     + [parts.pop(unknown, 0) for unknown in held])
                        if parts:
                            found.append([1] + [0] * (len(names) + len(held)))
                if events[-1] == ("wait",):
                    newer += [row + (False,), row + (True,)]
            rows = newer
        return found, 1 + len(names) + len(held), rows

    def test_beside_free_runs_from_there(self):
        rng = seeded(82)
        many = 0
        for _ in range(50):
            one = found_by_chance(rng)
            for _, stand in talking_stands(one)[:4]:
                if stand != ("silent",):
                    rows, width, rest = self.naive_needed(one, stand, 5)
                    needed = needed_sums(one, stand)
                    self.assertEqual(rank(list(needed) + rows), len(needed))
                    if not rest or rank(rows) == len(needed):
                        self.assertEqual(needed, base_of(rows, width))
                        many += len(needed) > 0
        self.assertGreater(many, 30)

    def test_forms_hold_no_more_than_stands(self):
        rng = seeded(81)
        equal = 0
        for _ in range(80):
            one = found_by_chance(rng)
            if looks_at_places(one) is not None:
                continue
            form = one_form(one)
            stands = talking_stands(one)
            if len(form) == len(stands):
                for (_, stand), entry in zip(stands, form):
                    self.assertEqual(least_held(one, stand), entry[2])
                    equal += entry[2] > 0
        self.assertGreater(equal, 10)


class Errors(unittest.TestCase, Raising):
    def test_stands_vectors_fields(self):
        one = image([coded(TAKE, 1), coded(TELL, 1), coded(0), coded(ASK)], [4])
        good = (("c", 1), (None,) * 9)
        calls = ((span_at, []), (sure_sums, []), (surely, [None]), (sure_value, [None]), (needed_sums, []), (least_held, []))
        for thing in any_objects() + [("silent",), ("noisy",), (("c", 3), (None,) * 9), (("c", 1), NONE), (("c", 1), (("d", 0),) + NONE),
                                      (("d", 0), (None,) * 9), (("c", 9), (None,) * 9)]:
            for call, more in calls:
                self.assert_raises_with(NoStand, {"stand": thing}, call, one, thing, *more)
            self.assert_raises_with(BadVector, {"index": 0}, surely, one, good, thing)
            if not (isinstance(thing, int) and not isinstance(thing, bool) and 0 <= thing <= 7):
                self.assert_raises_with(BadField, {"name": "x"}, sure_value, one, good, thing)
        for vector in ([0] * 11, [0] * 13, [0] * 11 + [True], [0] * 11 + [None]):
            self.assert_raises_with(BadVector, {"index": 0}, surely, one, good, vector)
        self.assertIs(surely(factors=(0,) * 12, stand=as_lists(good), image=one), True)
        for x in (8, -1):
            self.assert_raises_with(BadField, {"name": "x"}, sure_value, one, good, x)
        silent = Image([("c", "code", [coded(GO)])], ("c", 0))
        self.assert_raises_with(BadField, {"name": "x"}, sure_value, silent, ("silent",), 8)
