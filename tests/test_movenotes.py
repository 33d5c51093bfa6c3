"""[42], [44]: what is to be noted along, and where it is shown at which places a run goes."""

import unittest

from loadanywhere.errors import NoPiece, NoPoint
from loadanywhere.images import Image
from loadanywhere.movenotes import first_shown, shown_places, to_note, unseen
from loadanywhere.movetables import points
from loadanywhere.words import coded
from tests.helpers import Raising, any_objects, at
from tests.moves import Brute
from tests.test_movetables import (
    ADD, ASK, COPY, GO, LOAD, SET, STORE, TAKE, TELL, mixed, random_images,
)


class Notes(unittest.TestCase, Raising):
    def test_by_hand(self):
        self.assertEqual(to_note(mixed()), [("register", 1), ("register", 3)])
        self.assertEqual(to_note(image=Image([("c", "code", [coded(TAKE), coded(GO, 0, 0, -1)])], ("c", 0))), [])

    def test_what_comes_in_by_what_is_put_together(self):
        """r1 is put together from d 0, which is put from r2; both are sure again where it waits."""
        words = [coded(SET, 4), at("d"), coded(ASK, 0, 0, 3), coded(SET, 2), at("c"),
                 coded(STORE, 2, 4), coded(LOAD, 1, 4), coded(COPY, 2, 7), coded(STORE, 7, 4), coded(ASK, 0, 0, -7), coded(0)]
        image = Image([("c", "code", words), ("d", "data", [0])], ("c", 0))
        self.assertEqual(to_note(image), [("register", 1), ("register", 2), ("word", "d", 0)])
        # Without r1 nothing is unsure at a point.
        words[6] = coded(COPY, 3, 5)
        self.assertEqual(to_note(Image([("c", "code", words), ("d", "data", [0])], ("c", 0))), [])

    def test_registers_that_name_places_are_no_part(self):
        words = [coded(SET, 4), at("d"), coded(ASK, 0, 0, 3), coded(SET, 4), at("e"), coded(LOAD, 1, 4), coded(SET, 4), 0,
                 coded(ASK, 0, 0, 0), coded(0)]
        image = Image([("c", "code", words), ("d", "data", [0]), ("e", "data", [at("c")])], ("c", 0))
        self.assertEqual(to_note(image), [("register", 1)])

    def test_a_silent_ring_has_moments(self):
        """In the ring r2 is put from r3, which grows; but there is no point behind, and ahead all is sure."""
        words = [coded(SET, 3), at("c"), coded(ASK, 0, 0, 0), coded(ADD, 3, 3), coded(COPY, 2, 3), coded(GO, 0, 0, -2)]
        image = Image([("c", "code", words)], ("c", 0))
        self.assertEqual(to_note(image), [])
        words = [coded(ASK, 0, 0, 3), coded(SET, 1), at("c"), coded(ASK, 0, 0, 3), coded(SET, 3), at("c"),
                 coded(COPY, 1, 3), coded(ADD, 3, 3), coded(GO, 0, 0, -2)]
        image = Image([("c", "code", words)], ("c", 0))
        self.assertEqual(to_note(image), [("register", 1), ("register", 3)])

    def test_a_silent_ring_of_many_laps(self):
        """r3 is put into r1 in the ring; it is another one only in the fourth lap, by way of r4 and r5 from r6."""
        words = [coded(SET, 6), at("c"), coded(ADD, 6, 0)]
        for x in (5, 4, 3):
            words += [coded(COPY, x, 6)]
        words += [coded(ADD, 6, 3), coded(ASK, 0, 0, 3), coded(SET, 1), at("c"), coded(ASK, 0, 0, 1),
                  coded(COPY, 1, 3), coded(COPY, 3, 4), coded(COPY, 4, 5), coded(COPY, 5, 6), coded(GO, 0, 0, -4)]
        image = Image([("c", "code", words)], ("c", 0))
        self.assertEqual(to_note(image), [("register", n) for n in (1, 3, 4, 5)])
        self.assertEqual(Brute(image, 3).lot(), to_note(image))

    def test_what_other_instructions_put_is_put_together_from_nothing(self):
        """r1 is set while r0 names a word that is unsure; where the run waits that is sure again."""
        words = [coded(SET, 0), at("d"), coded(ASK, 0, 0, 4), coded(SET, 2), at("c"), coded(STORE, 2), coded(SET, 1), at("c"),
                 coded(STORE, 7), coded(COPY, 2, 7), coded(ASK, 0, 0, 3), coded(SET, 1), 0, coded(TAKE), coded(0)]
        image = Image([("c", "code", words), ("d", "data", [0])], ("c", 0))
        self.assertEqual(to_note(image), [("register", 1)])
        self.assertEqual(Brute(image, 4).lot(), to_note(image))

    def test_beside_all_rows(self):
        like = 0
        for image in random_images(50, 150):
            brute = Brute(image, 5)
            told = to_note(image)
            self.assertLessEqual(set(brute.lot()), set(told))
            like += brute.lot() == told
        self.assertGreaterEqual(like, 145)


class Shown(unittest.TestCase, Raising):
    def image(self):
        words = [coded(SET, 1), at("d"), coded(ASK, 0, 0, 1), coded(TAKE, 2), coded(ASK, 0, 0, 3), coded(TELL, 2),
                 coded(GO, 0, 0, -2), coded(TELL, 1), coded(ASK, 0, 0, -8), coded(0)]
        return Image([("c", "code", words), ("d", "data", [0])], ("c", 0))

    def test_by_hand(self):
        image = self.image()
        self.assertEqual(shown_places(image), [(("c", 7), "d")])
        self.assertEqual(first_shown(image, "d"), (False, True))
        self.assertEqual(first_shown(p="c", image=image), None)
        self.assertFalse(unseen(image, ("c", 4), "d"))
        self.assertTrue(unseen(image, ["c", 4], "c"))
        self.assertFalse(unseen(p="d", at=("c", 8), image=image))
        words = list(image.pieces()[0][2])
        words[8] = coded(ASK, 0, 0, 0)
        image = Image([("c", "code", words), ("d", "data", [0])], ("c", 0))
        self.assertTrue(unseen(image, ("c", 8), "d"))
        self.assertFalse(unseen(image, ("c", 3), "d"))

    def test_numbers_and_addresses(self):
        words = [coded(SET, 1), at("d"), coded(ADD, 1, 0), coded(TELL, 1), coded(SET, 2), at("d"), coded(11, 1, 2),
                 coded(TELL, 1), coded(SET, 3), at("c", 5), coded(TELL, 3), coded(0)]
        image = Image([("d", "data", [0]), ("c", "code", words)], ("c", 0))
        self.assertEqual(shown_places(image), [(("c", 3), "d"), (("c", 10), "c")])
        self.assertEqual((first_shown(image, "d"), first_shown(image, "c")), ((), ()))

    def test_beside_all_rows(self):
        seen = 0
        for image in random_images(51, 150):
            brute = Brute(image, 5)
            names = [p for p, _, _ in image.pieces()]
            told = shown_places(image)
            self.assertLessEqual({(one, p) for _, one, parts in brute.tells for p in names if parts[p]}, set(told))
            order = [(p, k) for p, _, words in image.pieces() for k in range(len(words))]
            self.assertEqual(told, sorted(told, key=lambda pair: (order.index(pair[0]), names.index(pair[1]))))
            for p in names:
                rows = [row for row, _, parts in brute.tells if parts[p]]
                seen += bool(rows)
                if rows:
                    self.assertEqual(first_shown(image, p), rows[0])
                self.assertEqual(first_shown(image, p) is None, p not in [q for _, q in told])
                for point in points(image):
                    self.check_unseen(image, brute, point, p)
        self.assertGreater(seen, 5)

    def check_unseen(self, image, brute, point, p):
        """Rows behind those by which it waits there: a tell behind by the same row comes only behind a take."""
        behind = []
        for row, at_, _ in brute.waits:
            if at_ == point and len(row) <= 3:
                behind += [one for one, _, parts in brute.tells if parts[p] and one[:len(row)] == row and len(one) > len(row)]
        if behind:
            self.assertFalse(unseen(image, point, p))
        if p not in [q for _, q in shown_places(image)]:
            self.assertTrue(unseen(image, point, p))

    def test_errors(self):
        image = self.image()
        for thing in any_objects() + [("c", 7)]:
            self.assert_raises_with(NoPoint, {"point": thing}, unseen, image, thing, None)
            self.assert_raises_with(NoPiece, {"p": thing}, unseen, image, ("c", 4), thing)
            self.assert_raises_with(NoPiece, {"p": thing}, first_shown, image, thing)
