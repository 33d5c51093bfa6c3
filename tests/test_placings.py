"""[70]: layouts as placings, near calls by stubs, misfits beside reaches."""

import unittest

from loadanywhere.images import Image, laid
from loadanywhere.lots import lot_of, row_of
from loadanywhere.partings import looks_at_places
from loadanywhere.plainruns import played
from loadanywhere.reaches import in_reach
from loadanywhere.relocating import fitting, misfits
from loadanywhere.walks import alike
from loadanywhere.words import coded
from tests.alikes import found_by_chance, random_answers
from tests.helpers import at
from tests.lying import orders_of
from tests.naive import random_placing, seeded

TAKE, TELL, ASK, GO, GOFAR, HERE, ADD, CALL, CALLFAR, JUMP = 1, 2, 3, 5, 6, 8, 10, 14, 15, 16


def near(code, p, k, q, to, x=0):
    """The near word at an address that leads to another one."""
    return (coded(code, x, 0, to - k), [(("piece", q), 2048), (("piece", p), -2048)])


class Layouts(unittest.TestCase):
    def test_are_placings(self):
        rng = seeded(350)
        alike_everywhere = 0
        for _ in range(60):
            image = found_by_chance(rng)
            if looks_at_places(image) is not None:
                continue
            alike_everywhere += 1
            answers = random_answers(rng, image, random_placing(rng, image))
            strides = {p: rng.choice([1, 2, 64]) for p, _, _ in image.pieces()}
            lot = lot_of(image, strides)
            events = []
            for order in rng.sample(orders_of(lot), min(4, len(orders_of(lot)))):
                layout = row_of(lot, order, rng.randint(0, 100))
                laid(image, layout)
                events.append(played(image, layout, answers))
            self.assertTrue(all(one == events[0] for one in events))
        self.assertGreater(alike_everywhere, 15)


def by_calls(call_one, call_other, stubs):
    """Takes a number, doubles it in one piece, tells it from another one, again and again."""
    def main(k, target):
        return near(CALL, "main", k, target, 0) if stubs else None
    words = [coded(TAKE, 1)]
    for target in (call_one, call_other):
        words += [main(len(words), target)] if stubs else [coded(CALLFAR), at(target)]
    words += [coded(ASK, 0, 0, 2), coded(GO, 0, 0, -len(words) - 1), coded(0)]
    pieces = [("main", "code", words), ("one", "code", [coded(ADD, 1, 1), coded(JUMP, 7)]),
              ("other", "code", [coded(TELL, 1), coded(JUMP, 7)])]
    if stubs:
        pieces += [("sa", "code", [coded(GOFAR), at("one")]), ("sb", "code", [coded(GOFAR), at("other")])]
    return Image(pieces, ("main", 0))


class Stubs(unittest.TestCase):
    def test_near_calls_to_stubs_are_alike_to_far_ones(self):
        by_stubs = by_calls("sa", "sb", True)
        far = by_calls("one", "other", False)
        self.assertTrue(alike(by_stubs, far))
        self.assertIsNone(looks_at_places(far))
        places = {"main": 5000, "one": 0, "other": 10 ** 6, "sa": 5100, "sb": 4900}
        self.assertTrue(fitting(by_stubs, places))
        self.assertEqual(played(by_stubs, places, [4, False, 5, True]),
                         played(far, {"main": 0, "one": 50, "other": 90}, [4, False, 5, True]))
        self.assertFalse(alike(by_calls("sb", "sb", True), far))


class Misfits(unittest.TestCase):
    def test_beside_in_reach(self):
        rng = seeded(351)
        kept = 0
        for _ in range(200):
            lengths = {p: rng.randint(100, 300) for p in "abc"}
            words = {p: [0] * length for p, length in lengths.items()}
            reaches = []
            for _ in range(rng.randint(1, 4)):
                p, q = rng.sample("abc", 2)
                k, to = rng.randrange(lengths[p]), rng.randrange(lengths[q])
                words[p][k] = near(rng.choice([ASK, GO, HERE, CALL]), p, k, q, to)
                reaches = [reach for reach in reaches if reach[:2] != (p, k)] + [(p, k, q, to, -256, 255)]
            own = rng.choice([0, 255, -256, 256])
            words["c"][0] = coded(GO, 0, 0, own)
            reaches = [reach for reach in reaches if reach[:2] != ("c", 0)]
            image = Image([(p, "code", words[p]) for p in "abc"], ("a", 0))
            lot = lot_of(image, {"b": 32})
            layout = row_of(lot, rng.choice(orders_of(lot)), rng.randint(0, 9))
            places = [place for place in misfits(image, layout) if place != ("c", 0)]
            self.assertEqual(sorted(places), sorted(reaches[index][:2] for index in in_reach(lot, layout, reaches)))
            self.assertEqual(("c", 0) in misfits(image, layout), own == 256)
            self.assertEqual(fitting(image, layout), not in_reach(lot, layout, reaches) and own != 256)
            kept += fitting(image, layout)
        self.assertGreater(kept, 20)


if __name__ == "__main__":
    unittest.main()
