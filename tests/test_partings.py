"""[48], [49]: papers of alike images, least partings of others, images that look at their places."""

import itertools
import unittest

from loadanywhere.errors import Parted
from loadanywhere.images import Image
from loadanywhere.partings import alike_paper, least_parting, looks_at_places
from loadanywhere.plainruns import played
from loadanywhere.walks import alike, lost_row
from loadanywhere.words import coded
from tests.alikes import (
    ASK, COPY, GO, LESS, SET, TAKE, TELL, found_by_chance, image, kind_waited_for, mutated, summing,
    summing_but, summing_in_words,
)
from tests.helpers import Raising, at, has_lists_within
from tests.naive import random_placing, seeded

NONE = (None,) * 8


def are_parted(one, places, other, others, answers):
    """Whether plain runs part by these answers: by events, or one waits at a take and the other at an ask."""
    events, more = played(one, places, answers), played(other, others, answers)
    if events != more:
        return True
    return kind_waited_for(one, places, answers) != kind_waited_for(other, others, answers)


class Papers(unittest.TestCase, Raising):
    def test_by_hand(self):
        paper = alike_paper(summing(), summing())
        start = (("c", 0), NONE)
        self.assertEqual([entry[:2] for entry in paper], [(start, start), ((("c", 2), NONE),) * 2])
        base = paper[0][2]
        self.assertEqual(base[0], (1,) + (0,) * 20)
        self.assertEqual(base[1:5], tuple((0,) * k + (1,) + (0,) * (20 - k) for k in (1, 2, 3, 4)))
        # r1 may hold anything, and r2, in both runs the same.
        rest = [(0,) * 5 + tuple(int(k in (r, r + 8)) for k in range(16)) for r in (1, 2)]
        self.assertEqual(list(base[5:]), rest)

    def test_order_and_silence(self):
        words = [coded(ASK, 0, 0, 2), coded(ASK, 0, 0, 2), coded(GO, 0, 0, 0), coded(TELL), coded(0)]
        one = image(words)
        paper = alike_paper(other=one, one=one)
        self.assertEqual([entry[0] for entry in paper],
                         [(("c", 0), NONE), (("c", 1), NONE), ("silent",), (("c", 3), NONE), (("c", 4), NONE)])
        silent = dict((entry[0], entry[2]) for entry in paper)[("silent",)]
        self.assertEqual(silent, tuple(tuple(int(k == j) for k in range(5)) for j in range(5)))
        self.assertFalse(has_lists_within(paper))

    def test_marks_have_no_columns(self):
        one = image([coded(SET, 1), at("c", 3), coded(TAKE, 2), coded(0)], [at("d")])
        (here, there, base), _ = alike_paper(one, one)
        self.assertEqual(here[1], (None, ("c", 3)) + (None,) * 6 + (("d", 0),))
        self.assertEqual(len(base[0]), 5 + 7 + 7)
        self.assertEqual(len(base), 5)

    def test_parted(self):
        self.assert_raises_with(Parted, {}, alike_paper, summing_but(1), summing_but(2))
        self.assert_raises_with(Parted, {}, alike_paper, summing(), summing_but(2))

    def test_forms_by_chance(self):
        rng = seeded(64)
        for _ in range(40):
            one = found_by_chance(rng)
            if not alike(one, one):
                self.assert_raises_with(Parted, {}, alike_paper, one, one)
                continue
            for here, there, base in alike_paper(one, one):
                self.assertEqual(here, there)
                marks = 0 if here == ("silent",) else here[1].count(None)
                self.assertEqual(len(base[0]), 1 + 2 * len(one.pieces()) + 2 * marks)
                self.assertEqual([row[0] for row in base], [1] + [0] * (len(base) - 1))


class Partings(unittest.TestCase, Raising):
    def test_by_hand(self):
        self.assertIsNone(least_parting(summing(), summing_in_words()))
        answers, places, others = least_parting(other=summing_but(2), one=summing_but(1))
        self.assertEqual(answers, (True, 0, False))
        self.assertTrue(are_parted(summing_but(1), places, summing_but(2), others, answers))
        self.assertEqual(least_parting(summing(), summing_but(0))[0], ())
        self.assertEqual((set(places), set(others)), ({"c", "d"}, {"c", "d"}))

    def test_a_number_handed_in(self):
        one = image([coded(TAKE, 1), coded(TAKE, 2), coded(TAKE, 3), coded(TELL, 2), coded(0)])
        other = image([coded(TAKE, 1), coded(TAKE, 2), coded(TAKE, 3), coded(TELL, 4), coded(0)])
        answers, places, others = least_parting(one, other)
        self.assertEqual(answers, (0, 1, 0))
        self.assertTrue(are_parted(one, places, other, others, answers))
        third = image([coded(TAKE, 1), coded(TAKE, 2), coded(TAKE, 3), coded(SET, 4), 9, coded(TELL, 4), coded(0)])
        self.assertEqual(least_parting(other, third)[0], (0, 0, 0))

    def test_registers_that_differ_at_a_take(self):
        one = image([coded(TAKE, 1), coded(TELL, 1), coded(0)])
        other = image([coded(SET, 2), 5, coded(TAKE, 2), coded(TELL, 3), coded(0)])
        self.assertEqual(least_parting(one, other)[0], (1,))

    def test_placings_at_which_nothing_is_told_apart_are_not_told(self):
        zero = image([coded(SET, 1), 0, coded(TELL, 1), coded(0)], [0])
        for p, q in (("c", "d"), ("d", "c"), ("d", "e"), ("e", "d")):
            for number in range(-8, 9):
                words = [coded(SET, 1), (number, [(("piece", p), 1), (("piece", q), -2)]), coded(TELL, 1), coded(0)]
                one = Image([("c", "code", words), ("d", "data", [0]), ("e", "data", [0, 0])], ("c", 0))
                answers, places, others = least_parting(one, zero)
                self.assertTrue(are_parted(one, places, zero, others, answers))
                answers, places, others = least_parting(zero, one)
                self.assertTrue(are_parted(zero, places, one, others, answers))

    def test_by_places_alone(self):
        told = image([coded(SET, 1), at("d", 1), coded(TELL, 1), coded(0)], [0, 0])
        answers, places, others = looks_at_places(told)
        self.assertEqual(answers, ())
        self.assertNotEqual(places["d"], others["d"])
        self.assertTrue(are_parted(told, places, told, others, answers))
        never = image([coded(SET, 1), at("d", 5), coded(TELL, 1), coded(0)], [0])
        zero = image([coded(SET, 1), (0, [(("piece", "d"), 3)]), coded(TELL, 1), coded(0)], [0])
        answers, places, others = least_parting(never, zero)
        self.assertTrue(are_parted(never, places, zero, others, answers))
        self.assertIsNone(looks_at_places(image=summing_in_words()))

    def test_takes_beside_asks(self):
        one, other = image([coded(TAKE), coded(0)]), image([coded(ASK, 0, 0, 1), coded(0)])
        answers, places, others = least_parting(one, other)
        self.assertEqual(answers, ())
        self.assertEqual(played(one, places, []), played(other, others, []))
        self.assertTrue(are_parted(one, places, other, others, answers))

    def test_beside_all_answers(self):
        rng = seeded(65)
        seen = 0
        while seen < 40:
            one = found_by_chance(rng)
            other = one if rng.random() < 0.3 else mutated(rng, one)
            if lost_row(other) is not None:
                continue
            parting = least_parting(one, other)
            self.assertEqual(parting is None, alike(one, other))
            if parting is None:
                continue
            seen += 1
            answers, places, others = parting
            self.assertTrue(are_parted(one, places, other, others, answers))
            numbers = [answer for answer in answers if not isinstance(answer, bool)]
            self.assertLessEqual(sorted(numbers), [0] * (len(numbers) - 1) + [1])
            for p, place in places.items():
                self.assertIsInstance(place, int)
            self.check_least(rng, one, other, answers)

    def check_least(self, rng, one, other, answers):
        """No fewer answers part them, at some placings by chance."""
        if len(answers) > 5:
            return
        for many in range(len(answers)):
            for row in itertools.product([False, True, 0, 7], repeat=many):
                places, others = random_placing(rng, one), random_placing(rng, other)
                try:
                    self.assertFalse(are_parted(one, places, other, others, row))
                except ValueError:
                    # An answer that one of the runs does not take.
                    continue

    def test_an_image_beside_itself(self):
        rng = seeded(66)
        for _ in range(60):
            one = found_by_chance(rng)
            found = looks_at_places(one)
            self.assertEqual(found is None, alike(one, one))
            if found is not None:
                self.assertTrue(are_parted(one, found[1], one, found[2], found[0]))

    def test_words_at_one_place_are_told_by_none(self):
        words = [coded(SET, 1), (0, [(("piece", "d"), 1), (("piece", "e"), -1)]), coded(COPY, 2, 1), coded(LESS, 2, 1),
                 coded(TELL, 2), coded(TELL, 1), coded(0)]
        one = Image([("c", "code", words), ("d", "data", [1, 2]), ("e", "data", [3]), ("n", "data", [])], ("c", 0))
        answers, places, others = looks_at_places(one)
        played(one, places, answers)
        played(one, others, answers)
        self.assertNotEqual(places["d"] - places["e"], others["d"] - others["e"])
