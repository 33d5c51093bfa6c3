"""[16]: great answers."""

import unittest

from loadanywhere.errors import BadGreat, BadNumber, BadWorths
from loadanywhere.greats import great_counts, great_registers
from loadanywhere.images import Image
from loadanywhere.words import coded
from tests.helpers import Raising, any_objects, at
from tests.naive import naive_free, random_image, seeded, steady_image, sum_of_value, worth

STOP, TAKE, TELL, ASK, ASKFAR, GO, GOFAR, SET, HERE, COPY, ADD, LESS, LOAD, STORE, CALL, CALLFAR, JUMP = range(17)
MOST = 10 ** 30
WORTHS = {("piece", "a"): 40, ("piece", "d"): 900, ("in", 1): 3}


def code(words, data=()):
    return Image([("a", "code", words), ("d", "data", data)], ("a", 0))


DOUBLE = code([coded(SET, 0), 1, coded(ADD, 0, 0), coded(ASK, d=-1), 0])


class Worths(dict):
    """All numbers handed in are worth as much as the first one."""

    def __missing__(self, unknown):
        return self[("in", 1)]


def spread(great):
    return [answer for answers, times in great for _ in range(times) for answer in answers]


class Few(unittest.TestCase):
    def test_beside_free_runs(self):
        for seed in range(240):
            rng = seeded(seed)
            image = random_image(rng) if seed % 4 == 0 else steady_image(rng, rng.randint(4, 18))
            great = [([rng.random() < 0.6 for _ in range(rng.randint(0, 3))], rng.choice([0, 1, 2, 7, 40]))
                     for _ in range(rng.randint(0, 4))]
            _, (_, registers, _), counts = naive_free(image, spread(great))
            order = [(p, k) for p, _, words in image.pieces() for k in range(len(words))]
            self.assertEqual(list(great_counts(image, great).items()),
                             [(address, counts[address]) for address in order if address in counts])
            modulo = rng.choice([2, 3, 10, 10 ** 9 + 7])
            worths = Worths({("piece", p): rng.randint(-99, 99) for p, _, _ in image.pieces()})
            worths[("in", 1)] = rng.randint(-99, 99)
            told = tuple(worth(sum_of_value(value), worths) % modulo for value in registers)
            self.assertEqual(great_registers(image, great, dict(worths), modulo), told)


class Great(unittest.TestCase):
    def test_doubled_at_each_round(self):
        self.assertEqual(great_counts(DOUBLE, [([True], MOST)]),
                         {("a", 0): 1, ("a", 2): MOST + 1, ("a", 3): MOST})
        for modulo in (2, 10 ** 9 + 7, 10 ** 40 + 1):
            found = great_registers(DOUBLE, [([True], MOST)], WORTHS, modulo)
            self.assertEqual(found, (pow(2, MOST + 1, modulo),) + (0,) * 7)

    def test_takes_and_places(self):
        image = code([coded(SET, 3), at("d"), coded(TAKE, 1), coded(ADD, 2, 1), coded(LOAD, 4, 3, 1),
                      coded(ADD, 4, 3), coded(STORE, 4, 3, 1), coded(ASK, d=-5), 0], [0, 7])
        found = great_registers(image, [([True], MOST)], WORTHS, 10 ** 40)
        self.assertEqual(found, (0, 3, 3 * (MOST + 1), 900, 7 + 900 * (MOST + 1), 0, 0, 0))
        self.assertEqual(great_registers(image, [([True], MOST)], WORTHS, 7)[4], (7 + 900 * (MOST + 1)) % 7)

    def test_as_many_together(self):
        for seed in range(60):
            rng = seeded(seed)
            image = steady_image(rng, rng.randint(4, 25), rng.choice([3, 9]))
            answers = [rng.random() < 0.6 for _ in range(rng.randint(1, 5))]
            many = rng.randint(0, MOST)
            apart = [(answers, many), (answers, MOST - many)]
            worths = {("piece", "a"): rng.randint(0, 10 ** 6), ("piece", "d"): 5, ("in", 1): 11}
            modulo = rng.choice([2, 10 ** 9 + 7, 10 ** 35])
            self.assertEqual(great_counts(image, apart), great_counts(image, [(answers, MOST)]))
            self.assertEqual(great_registers(image, apart, worths, modulo),
                             great_registers(image, [(answers, MOST)], worths, modulo))

    def test_long_rings(self):
        # A counter whose digits are addresses: it comes back to its stand behind 2 ** 6 answers.
        words = [coded(SET, 3), at("d"), coded(ASK, d=1)]
        digits = []
        for digit in range(6):
            zero = len(words) + 2
            words += [coded(LOAD, 0, 3, digit), coded(JUMP, 0), coded(SET, 1), at("a", zero + 4),
                      coded(STORE, 1, 3, digit), coded(GO, d=2 - zero - 3), coded(SET, 1), at("a", zero),
                      coded(STORE, 1, 3, digit), coded(ADD, 2, 2)]
            digits.append(at("a", zero))
        words += [coded(ADD, 5, 6), coded(GO, d=1 - len(words))]
        image = code(words, digits)
        rounds, rest = divmod(MOST, 64)
        counts = great_counts(image, [([True], MOST)])
        self.assertEqual(counts[("a", 2)], MOST)
        for digit in range(6):
            self.assertEqual(counts[("a", 11 + 10 * digit)], MOST >> (digit + 1))
        self.assertEqual(counts.get(("a", len(words) - 1)), rounds)
        self.assertEqual(rest, MOST % 64)

    def test_ends(self):
        self.assertEqual(great_counts(DOUBLE, []), {("a", 0): 1, ("a", 2): 1})
        self.assertEqual(great_counts(DOUBLE, [([], MOST), ([False], MOST), ([True], MOST)]),
                         {("a", 0): 1, ("a", 2): 1, ("a", 3): 1, ("a", 4): 1})
        self.assertEqual(great_counts(code([coded(GO)]), [([True], MOST)]), {("a", 0): 10000})
        self.assertEqual(great_counts(code([coded(ASK, d=1), coded(GO)]), [([True], MOST)]),
                         {("a", 0): 1, ("a", 1): 10000})
        self.assertEqual(great_counts(code([coded(COPY), coded(LOAD, 1, 1)]), [([True], MOST)]), {("a", 0): 1})
        self.assertEqual(great_counts(code([coded(ASKFAR), 0, 0]), [([True], MOST)]), {})
        self.assertEqual(great_counts(code([coded(ASKFAR), 0, 0]), [([False], MOST)]), {("a", 0): 1, ("a", 2): 1})
        self.assertEqual(great_registers(code([coded(HERE, 1, 0, 9), coded(17)]), [([True], MOST)], WORTHS, 10),
                         (0, 9, 0, 0, 0, 0, 0, 0))


class Errors(unittest.TestCase, Raising):
    def test_bad_greats(self):
        def calls(great):
            yield great_counts, (DOUBLE, great)
            yield great_registers, (DOUBLE, great, None, None)
        bad = [([True], -1), ([True], MOST + 1), ([True], True), ([1], 1), (True, 1), ([True],), ([True], 1, 1),
               ([True, None], 2), ({}, 1), ([True], "1")]
        for thing in any_objects() + bad:
            for call, arguments in calls([([False], 1), ((True,), 0), thing, None]):
                self.assert_raises_with(BadGreat, {"index": 2}, call, *arguments)
            if not isinstance(thing, (list, tuple)):
                for call, arguments in calls(thing):
                    self.assert_raises_with(BadGreat, {"index": 0}, call, *arguments)

    def test_bad_modulo(self):
        for thing in any_objects() + [1, 0, -5]:
            if isinstance(thing, bool) or not isinstance(thing, int) or thing < 2:
                self.assert_raises_with(BadNumber, {"number": thing}, great_registers, DOUBLE, [], None, thing)

    def test_bad_worths(self):
        for thing in any_objects():
            self.assert_raises_with(BadWorths, {"key": ("piece", "a")}, great_registers, DOUBLE, [], thing, 2)
            if isinstance(thing, bool) or not isinstance(thing, int):
                for key in WORTHS:
                    worths = {**WORTHS, key: thing}
                    self.assert_raises_with(BadWorths, {"key": key}, great_registers, DOUBLE, [], worths, 2)
        self.assert_raises_with(BadWorths, {"key": ("in", 1)}, great_registers, DOUBLE, [],
                                {("piece", "d"): 0, ("piece", "a"): 0}, 2)

    def test_by_name_and_unchanged(self):
        great = [[[True, False], 3]]
        worths = {**WORTHS, "more": None}
        self.assertEqual(great_counts(great=great, image=DOUBLE), great_counts(DOUBLE, [((True, False), 3)]))
        self.assertEqual(great_registers(modulo=9, worths=worths, great=great, image=DOUBLE),
                         great_registers(DOUBLE, great, WORTHS, 9))
        self.assertEqual((great, worths), ([[[True, False], 3]], {**WORTHS, "more": None}))
        great_counts(DOUBLE, great).clear()
        self.assertEqual(len(great_counts(DOUBLE, great)), 4)
