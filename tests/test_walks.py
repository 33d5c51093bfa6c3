"""[45], [46], [54]: losses, talking stands, alike images, runs that go on alike from any stands."""

import unittest

from loadanywhere.errors import BadVector, Lost, NoStand
from loadanywhere.freetold import free_events
from loadanywhere.images import Image
from loadanywhere.oneforms import one_form
from loadanywhere.papers import is_paper, paper_turned, papers_joined
from loadanywhere.partings import alike_paper, least_parting, looks_at_places
from loadanywhere.plainruns import played
from loadanywhere.sures import least_held, needed_sums, span_at, sure_sums, sure_value, surely
from loadanywhere.walks import alike, alike_from, lost_row, talking_stands
from loadanywhere.words import coded
from tests.alikes import (
    ADD, ASK, ASKFAR, COPY, GO, LESS, LOAD, SET, TAKE, TELL, by_chance, found_by_chance, image, mutated,
    naive_spans, random_answers, summing, summing_but, summing_in_words,
)
from tests.helpers import Raising, any_objects, as_lists, at
from tests.naive import random_placing, seeded

NONE = (None,) * 8


class Losses(unittest.TestCase, Raising):
    def test_by_hand(self):
        self.assertIsNone(lost_row(summing()))
        self.assertEqual(lost_row(image([coded(LOAD, 1, 1)])), ())
        self.assertEqual(lost_row(image([coded(ASK, 0, 0, 7), coded(0)])), (True,))
        self.assertEqual(lost_row(image=image([coded(ASK, 0, 0, 0), coded(ASK, 0, 0, 1)])), (False, False))
        # A yes that leads nowhere is among the row.
        nowhere = Image([("c", "code", [coded(ASKFAR), 5, coded(0)])], ("c", 0))
        self.assertEqual(lost_row(nowhere), (True,))
        # A loss behind more than ten thousand instructions.
        self.assertEqual(lost_row(image([coded(COPY)] * 10050)), ())

    def test_beside_free_events(self):
        rng = seeded(60)
        lost = 0
        for _ in range(200):
            one = by_chance(rng)
            rows = [()]
            first = None
            while rows and first is None and len(rows[0]) < 6:
                newer = []
                for row in rows:
                    event = free_events(one, row)[-1]
                    if event[0] == "lost" and first is None:
                        first = row
                    if event == ("wait",):
                        newer += [row + (False,), row + (True,)]
                rows = newer
            lost += first is not None
            if first is not None or not rows:
                self.assertEqual(lost_row(one), first)
            else:
                self.assertTrue(lost_row(one) is None or len(lost_row(one)) >= 6)
        self.assertGreater(lost, 40)

    def test_all_others_raise_lost_ahead_of_all_else(self):
        good, bad = summing(), image([coded(ASK, 0, 0, 7), coded(0)])
        worse = image([coded(LOAD, 1, 1)])
        for call, more in ((alike, []), (alike_paper, []), (least_parting, []), (is_paper, [None]), (paper_turned, [None])):
            self.assert_raises_with(Lost, {"side": 1, "answers": (True,)}, call, bad, worse, *more)
            self.assert_raises_with(Lost, {"side": 2, "answers": ()}, call, good, worse, *more)
        for call, more in ((talking_stands, []), (looks_at_places, []), (span_at, [None]), (sure_sums, [None]),
                           (surely, [None, None]), (sure_value, [None, None]), (needed_sums, [None]),
                           (least_held, [None]), (one_form, [])):
            self.assert_raises_with(Lost, {"side": 1, "answers": (True,)}, call, bad, *more)
        self.assert_raises_with(Lost, {"side": 1, "answers": ()}, papers_joined, worse, bad, bad, None, None)
        self.assert_raises_with(Lost, {"side": 2, "answers": ()}, papers_joined, good, worse, bad, None, None)
        self.assert_raises_with(Lost, {"side": 3, "answers": (True,)}, papers_joined, good, good, bad, None, None)


class TalkingStands(unittest.TestCase, Raising):
    def test_by_hand(self):
        self.assertEqual(talking_stands(summing()), [((), (("c", 0), NONE)), ((), (("c", 2), NONE))])
        words = [coded(ASK, 0, 0, 4), coded(SET, 1), at("d"), coded(ASK, 0, 0, -3), coded(GO, 0, 0, 0)]
        one = image(words, [0])
        marked = (None, ("d", 0)) + (None,) * 7
        self.assertEqual(talking_stands(one), [
            ((), (("c", 0), NONE + (None,))), ((False,), (("c", 3), marked)), ((True,), ("silent",)),
            ((False, True), (("c", 0), marked))])
        self.assertEqual(talking_stands(image=image([coded(0)])), [((), (("c", 0), NONE))])
        self.assertEqual(talking_stands(image([coded(GO, 0, 0, 0)])), [((), ("silent",))])

    def test_far_asks_and_silence_that_is_long_in_coming(self):
        self.assertEqual(talking_stands(image([coded(ASKFAR), at("c", 2), coded(0)])),
                         [((), (("c", 0), NONE)), ((False,), (("c", 2), NONE))])
        words = [coded(COPY)] * 10020 + [coded(0)]
        self.assertEqual(talking_stands(image(words)), [((), (("c", 10020), NONE))])

    def test_beside_free_runs(self):
        rng = seeded(61)
        for _ in range(60):
            one = found_by_chance(rng)
            _, firsts, rest = naive_spans(one, 5)
            told = {stand: row for row, stand in talking_stands(one) if stand != ("silent",)}
            for stand, row in firsts.items():
                self.assertEqual(told[stand], row)
            if not rest:
                self.assertEqual(list(told), list(firsts))


class Alike(unittest.TestCase, Raising):
    def test_written_otherwise(self):
        self.assertTrue(alike(summing(), summing_in_words()))
        self.assertTrue(alike(other=summing(), one=summing_in_words()))
        self.assertIs(alike(summing(), summing()), True)

    def test_an_event_a_number_a_take_beside_an_ask(self):
        self.assertFalse(alike(summing_but(1), summing_but(2)))
        self.assertFalse(alike(summing(), summing_but(0)))
        self.assertTrue(alike(summing_but(0), summing_but(0)))
        take = image([coded(TAKE), coded(0)])
        self.assertFalse(alike(take, image([coded(ASK, 0, 0, 1), coded(0)])))
        self.assertFalse(alike(take, image([coded(0)])))
        self.assertFalse(alike(image([coded(TELL), coded(0)]), image([coded(TELL), coded(TELL), coded(0)])))
        self.assertFalse(alike(image([coded(TAKE, 1), coded(TELL, 1), coded(0)]), image([coded(TAKE, 1), coded(TELL), coded(0)])))

    def test_runs_that_tell_on_and_on_and_silent_ones(self):
        on = image([coded(TELL), coded(GO, 0, 0, -1)])
        silent = image([coded(GO, 0, 0, 0)])
        self.assertTrue(alike(on, image([coded(TELL, 1), coded(TELL, 2), coded(GO, 0, 0, -2)])))
        self.assertTrue(alike(silent, image([coded(ADD, 1, 1), coded(GO, 0, 0, -1)])))
        self.assertFalse(alike(on, silent))
        self.assertFalse(alike(silent, image([coded(0)])))
        counting = image([coded(SET, 1), 1, coded(ADD, 0, 1), coded(TELL), coded(GO, 0, 0, -2)])
        self.assertFalse(alike(on, counting))
        self.assertTrue(alike(counting, counting))

    def test_places(self):
        told = image([coded(SET, 1), at("d", 3), coded(TELL, 1), coded(0)], [0])
        self.assertFalse(alike(told, told))
        less = image([coded(SET, 1), at("d", 3), coded(SET, 2), at("d"), coded(LESS, 1, 2), coded(TELL, 1), coded(0)], [0])
        self.assertTrue(alike(less, image([coded(SET, 1), 3, coded(TELL, 1), coded(0)])))

    def test_beside_plain_runs(self):
        rng = seeded(62)
        seen = {True: 0, False: 0}
        while min(seen.values()) < 25:
            one = found_by_chance(rng)
            other = mutated(rng, one)
            if lost_row(other) is not None:
                continue
            are = alike(one, other)
            seen[are] += 1
            for _ in range(3 if are else 0):
                places, others = random_placing(rng, one), random_placing(rng, other)
                answers = random_answers(rng, one, places)
                events = played(one, places, answers)
                if events[-1] != ("silent",):
                    self.assertEqual(played(other, others, answers), events)


class From(unittest.TestCase, Raising):
    def test_from_the_starts_it_is_as_alike(self):
        rng = seeded(63)
        for _ in range(60):
            one = found_by_chance(rng)
            other = mutated(rng, one)
            if lost_row(other) is not None:
                continue
            here, there = start_of(one), start_of(other)
            rows = start_rows(one, here, other, there)
            self.assertEqual(alike_from(one, here, other, there, rows), alike(one, other))
            self.assertEqual(alike_from(one, as_lists(here), other, as_lists(there), as_lists(rows)), alike(one, other))

    def test_other_stands_and_rows(self):
        one = summing()
        here = (("c", 2), NONE)
        nothing = [0] * 18

        def row(**held):
            found = [held.get("one", 1)] + nothing[:4] + [0] * 16
            for name, number in held.items():
                if name != "one":
                    found[5 + int(name[1:])] = number
            return found

        # Numbers of the first stand in columns 5 to 12, of the second behind them.
        self.assertTrue(alike_from(one, here, one, here, [row(r2=7, r10=7)]))
        self.assertFalse(alike_from(one, here, one, here, [row(r2=7, r10=8)]))
        self.assertTrue(alike_from(one, here, one, here, [row(r2=7, r10=7), row(r1=3)]))
        self.assertFalse(alike_from(one, here, one, here, [row(r2=7, r10=7), row(r10=1)]))
        self.assertTrue(alike_from(rows=[], there=here, other=one, here=here, one=one))
        self.assertFalse(alike_from(one, here, one, (("c", 0), NONE), []))
        self.assertTrue(alike_from(one, (("c", 3), NONE), one, (("c", 0), NONE), []))
        self.assertTrue(alike_from(one, here, one, here, [row(one=0, r2=2, r10=2)]))
        self.assertFalse(alike_from(one, here, one, here, [row(one=0, r2=2)]))

    def test_rows_whose_first_number_is_0(self):
        """What is handed in counts as often as the 1 does."""
        takes = image([coded(TAKE, 1), coded(TELL, 1), coded(0)])
        tells_0 = image([coded(TAKE, 1), coded(TELL, 2), coded(0)])
        here = (("c", 0), NONE)
        self.assertTrue(alike_from(takes, here, tells_0, here, [[0] * 21]))
        self.assertTrue(alike_from(takes, here, tells_0, here, [[0, 1] + [0] * 19]))
        self.assertFalse(alike_from(takes, here, tells_0, here, [[1] + [0] * 20]))
        self.assertFalse(alike_from(takes, here, tells_0, here, [[2] + [0] * 20]))

    def test_an_address_beside_a_number(self):
        """One holds an address of d, the other a number: they tell the same if this is its place and offset."""
        one = image([coded(TELL, 1), coded(0)], [0])
        here, there = (("c", 0), (None, ("d", 3)) + (None,) * 7), (("c", 0), (None,) * 9)

        def row(number, first=1, place=7):
            return [first, 0, place, 0, 0] + [0] * 8 + [0, number] + [0] * 7

        self.assertTrue(alike_from(one, here, one, there, [row(10)]))
        self.assertTrue(alike_from(one, here, one, there, [row(10), row(3, 0, 3), row(3, 1, 0)]))
        self.assertFalse(alike_from(one, here, one, there, [row(7)]))
        self.assertFalse(alike_from(one, here, one, there, [row(11)]))
        self.assertFalse(alike_from(one, here, one, there, [row(10), row(6, 0, 3)]))
        self.assertTrue(alike_from(one, (here[0], (None, ("d", 0)) + (None,) * 7), one, there, [row(7)]))

    def test_marks_that_no_run_has(self):
        one = image([coded(LOAD, 1, 2), coded(TELL, 1), coded(0)], [5, 6])
        marks = (None, None, ("d", 1)) + (None,) * 7
        both = [1, 0, 0, 0, 0] + [0] * 7 + [0, 4] + [0] * 7 + [0, 4]
        self.assertTrue(alike_from(one, (("c", 0), marks), one, (("c", 0), marks), [both]))
        far = (None, None, ("d", 2)) + (None,) * 7
        self.assert_raises_with(Lost, {"side": 1, "answers": ()}, alike_from, one, (("c", 0), far), one, (("c", 0), far), [])
        self.assert_raises_with(Lost, {"side": 2, "answers": ()},
                                alike_from, one, (("c", 2), far), one, (("c", 0), far), [])

    def test_lost_from_there_alone(self):
        one = image([coded(LOAD, 1, 1), coded(0), coded(ASK, 0, 0, -2), coded(0)])
        here = (("c", 1), NONE)
        self.assertEqual(lost_row(one), ())
        self.assertTrue(alike_from(one, here, one, here, []))
        # The runs part ahead of the loss, and it is told nevertheless.
        self.assert_raises_with(Lost, {"side": 2, "answers": (True,)}, alike_from, one, here, one, (("c", 2), NONE), [])
        self.assert_raises_with(Lost, {"side": 1, "answers": (True,)}, alike_from, one, (("c", 2), NONE), one,
                                (("c", 0), NONE), [])

    def test_errors_in_their_order(self):
        one = summing()
        good = (("c", 2), NONE)
        for thing in any_objects() + [("silent",), (("c", 4), NONE), (("d", 0), NONE), (("c", 0), NONE[1:]),
                                      (("c", 0), (7,) + NONE[1:]), (("c", 0), (("z", 0),) + NONE[1:]),
                                      (("c", 0), (("d", True),) + NONE[1:]), (("c", -1), NONE)]:
            self.assert_raises_with(NoStand, {"stand": thing}, alike_from, one, thing, one, thing, None)
            self.assert_raises_with(NoStand, {"stand": thing}, alike_from, one, good, one, thing, None)
            if not isinstance(thing, (list, tuple)):
                self.assert_raises_with(BadVector, {"index": 0}, alike_from, one, good, one, good, thing)
            self.assert_raises_with(BadVector, {"index": 1}, alike_from, one, good, one, good, [[0] * 21, thing])
        bad = image([coded(LOAD, 1, 1)])
        self.assert_raises_with(BadVector, {"index": 0}, alike_from, bad, (("c", 0), NONE), bad, (("c", 0), NONE), [[0] * 20])
        marked = (("c", 2), (("d", 5),) + NONE[1:])
        self.assertTrue(alike_from(one, marked, one, good, [[0] * 20]))
        self.assert_raises_with(BadVector, {"index": 0}, alike_from, one, marked, one, good, [[0] * 21])

    def test_any_word_of_a_code_piece(self):
        one = image([coded(SET, 1), coded(TELL), coded(0)])
        self.assertTrue(alike_from(one, (("c", 1), NONE), one, (("c", 1), NONE), []))
        self.assertFalse(alike_from(one, (("c", 1), NONE), one, (("c", 0), NONE), []))


def start_of(one):
    marks = [None] * 8
    for p, kind, words in one.pieces():
        for word in words if kind == "data" else ():
            number, parts = word
            alone = len(parts) == 1 and parts[0][1] == 1
            marks.append((parts[0][0][1], number) if alone else None)
    return (one.first, tuple(marks))


def start_rows(one, here, other, there):
    """1, and each place alone, with the numbers that the data words hold at first."""
    names = [("one", p) for p, _, _ in one.pieces()] + [("other", p) for p, _, _ in other.pieces()]
    rows = []
    for unknown in [None] + names:
        row = [int(unknown is None)] + [int(unknown == name) for name in names]
        for which, image_, stand in (("one", one, here), ("other", other, there)):
            words = [word for _, kind, words in image_.pieces() if kind == "data" for word in words]
            sums = [(0, ())] * 8 + words
            for (number, parts), mark in zip(sums, stand[1]):
                if mark is None:
                    parted = {(which, name[1]): multiple for name, multiple in parts}
                    row.append(number if unknown is None else parted.get(unknown, 0))
        rows.append(tuple(row))
    return rows
