"""[53]: the one form of images that do not look at their places."""

import unittest

from loadanywhere.errors import Looks
from loadanywhere.images import Image
from loadanywhere.oneforms import one_form
from loadanywhere.partings import looks_at_places
from loadanywhere.walks import alike, lost_row, talking_stands
from loadanywhere.words import coded
from tests.alikes import (
    ADD, ASK, COPY, GO, LESS, LOAD, SET, STORE, TAKE, TELL, NaiveForm, found_by_chance, image, mutated, summing,
    summing_but, summing_in_words,
)
from tests.helpers import Raising, at, has_lists_within
from tests.naive import seeded

ONE, NO = (1, 1), (0, 1)


class Forms(unittest.TestCase, Raising):
    def test_by_hand(self):
        form = one_form(image=summing())
        # The first run by 0 tells 0 always but for what is taken, the second one by 1.
        self.assertEqual([entry[:4] for entry in form], [("take", (1,), 2, ()), ("tell", (0,), 2, (0, 1))])
        self.assertEqual(form[1][4], (((ONE, NO), (NO, ONE)),))
        # Units of the take: the start, and the run behind 1; by 1 the start comes to the second unit of the tell,
        # the other one to 2 of these less the first.
        self.assertEqual(form[0][4], (((ONE, NO), (NO, ONE)), ((NO, ONE), ((-1, 1), (2, 1)))))

    def test_stop_and_silent(self):
        one = image([coded(ASK, 0, 0, 2), coded(0), coded(GO, 0, 0, 0)])
        self.assertEqual(one_form(one), (("ask", (1, 2), 0, (), ((), ())), ("stop", (), 0, (), ()),
                                         ("silent", (), 0, (), ())))
        self.assertEqual(one_form(image([coded(SET, 1), 7, coded(TELL, 1), coded(0)])),
                         (("tell", (1,), 1, (7,), (((),),)), ("stop", (), 0, (), ())))

    def test_fractions(self):
        words = [coded(SET, 1), 2, coded(ASK, 0, 0, 4), coded(TELL, 1), coded(0), 0, coded(SET, 1), 3, coded(GO, 0, 0, -5)]
        form = one_form(image(words))
        self.assertEqual([entry[0] for entry in form], ["ask", "tell", "stop"])
        self.assertEqual(form[1][3], (2,))
        self.assertIn(((3, 2),), [fractions for entry in form for way in entry[4] for fractions in way])

    def test_classes_in_their_order(self):
        words = [coded(ASK, 0, 0, 3), coded(TELL), coded(0), coded(TAKE), coded(0)]
        self.assertEqual([entry[0] for entry in one_form(image(words))], ["ask", "tell", "stop", "take"])
        self.assertEqual(one_form(image(words))[0][1], (1, 3))

    def test_several_stands_of_one_class(self):
        """r1 holds an address by turns, so there are twice as many stands; the form has them as one."""
        words = [coded(TAKE, 2), coded(TELL, 2), coded(SET, 1), at("c"), coded(TAKE, 2), coded(TELL, 2), coded(SET, 1), 0,
                 coded(GO, 0, 0, -8)]
        twice = image(words)
        once = image([coded(TAKE, 2), coded(TELL, 2), coded(GO, 0, 0, -2)])
        self.assertEqual((len(talking_stands(twice)), len(talking_stands(once))), (4, 2))
        self.assertEqual(one_form(twice), one_form(once))
        self.assertFalse(has_lists_within(one_form(twice)))

    def test_looks(self):
        told = image([coded(SET, 1), at("d", 1), coded(TELL, 1), coded(0)], [0])
        answers, mine, others = looks_at_places(told)
        with self.assertRaises(Looks) as caught:
            one_form(told)
        self.assertEqual((caught.exception.answers, caught.exception.mine, caught.exception.others), (answers, mine, others))

    def test_equal_just_if_alike(self):
        self.assertEqual(one_form(summing()), one_form(summing_in_words()))
        self.assertNotEqual(one_form(summing_but(1)), one_form(summing_but(2)))
        rng = seeded(90)
        seen = {True: 0, False: 0}
        while min(seen.values()) < 12:
            one = found_by_chance(rng)
            other = mutated(rng, one)
            if lost_row(other) is not None or looks_at_places(one) is not None or looks_at_places(other) is not None:
                continue
            seen[alike(one, other)] += 1
            self.assertEqual(one_form(one) == one_form(other), alike(one, other))

    def test_beside_what_plain_runs_tell(self):
        """Small images, all answers up to some length; each is looked at as deep as it hangs on."""
        codes = (
            [coded(TAKE, 1), coded(ADD, 2, 1), coded(TELL, 2), coded(GO, 0, 0, -3)],
            [coded(TAKE, 1), coded(LESS, 2, 1), coded(ASK, 0, 0, -2), coded(TELL, 2), coded(0)],
            [coded(ASK, 0, 0, 2), coded(TAKE, 1), coded(TELL, 1), coded(ADD, 1, 1), coded(GO, 0, 0, -4)],
            [coded(SET, 1), 3, coded(ADD, 2, 1), coded(TELL, 2), coded(ASK, 0, 0, -4), coded(TELL, 1), coded(0)],
            [coded(TAKE, 1), coded(TAKE, 2), coded(ASK, 0, 0, 3), coded(TELL, 1), coded(0), coded(TELL, 2), coded(0)],
            [coded(TAKE, 1), coded(TAKE, 2), coded(ADD, 1, 2), coded(ADD, 1, 2), coded(TELL, 1), coded(GO, 0, 0, -5)],
            [coded(TAKE, 1), coded(TELL, 1), coded(COPY, 3, 2), coded(COPY, 2, 1), coded(TELL, 3), coded(GO, 0, 0, -5)],
            [coded(ASK, 0, 0, 2), coded(0), coded(ASK, 0, 0, -2), coded(GO, 0, 0, -2)],
        )
        for code in codes:
            one = image(code)
            self.assertEqual(one_form(one), NaiveForm(one, {"c": 0, "d": 100}, 4, 4).form())

    def test_units_as_they_come(self):
        """Behind 0 it tells 0, 1, 2 .., behind 1 it tells 2, 3, ..: the second tell behind 0 comes ahead of the latter."""
        one = image([coded(SET, 4), 1, coded(TAKE, 1), coded(ADD, 1, 1), coded(TELL, 1), coded(ADD, 1, 4), coded(GO, 0, 0, -2)])
        self.assertEqual(one_form(one), (
            ("take", (1,), 1, (), (((ONE, NO),), (((-1, 1), (2, 1)),))),
            ("tell", (1,), 2, (0, 1), (((NO, ONE), ((-1, 1), (2, 1))),))))

    def test_data_words(self):
        words = [coded(SET, 5), at("d"), coded(TAKE, 1), coded(LOAD, 2, 5), coded(STORE, 1, 5), coded(TELL, 2),
                 coded(GO, 0, 0, -4)]
        delayed = Image([("d", "data", [7]), ("c", "code", words)], ("c", 0))
        registers = image([coded(SET, 2), 7, coded(TAKE, 1), coded(TELL, 2), coded(COPY, 2, 1), coded(GO, 0, 0, -3)])
        self.assertEqual(one_form(delayed), one_form(registers))
        self.assertEqual([entry[2] for entry in one_form(delayed)], [2, 3])
