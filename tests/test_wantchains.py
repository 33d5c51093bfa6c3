"""[84]: why somebody comes by a line."""

import itertools
import unittest

from loadanywhere.lineup import came, whose
from loadanywhere.errors import Twice
from loadanywhere.wantchains import chains, is_want_chain, trimmed
from tests.helpers import any_objects, as_lists, as_tuples
from tests.linking import NAMES, NaiveLine, random_line
from tests.naive import seeded
from tests.test_lineup import member


def is_chain_at_sight(line, thing):
    naive = NaiveLine(line)
    members = {seat: (one, name) for seat, one, name in naive.here}
    if len(thing) % 2 == 0 or any(tuple(seat) not in members for seat in thing[::2]):
        return False
    seats = [tuple(seat) for seat in thing[::2]]
    if members[seats[0]][1] is not None:
        return False
    return all(name in naive.strong(members[one][0], True) and name in naive.strong(members[other][0], False)
               for one, name, other in zip(seats, thing[1::2], seats[1:]))


LINE = [("member", member("m", "start", "a")), ("library", [member("x", "a", "b c"), member("y", "b", "a")]),
        ("group", [[member("z", "c", "b")], []])]


class Chains(unittest.TestCase):
    def test_by_hand(self):
        found = chains(LINE)
        self.assertEqual(found, {(0, "m"): [(0, "m")], (1, "x"): [(0, "m"), "a", (1, "x")],
                                 (1, "y"): [(0, "m"), "a", (1, "x"), "b", (1, "y")],
                                 (2, 0, "z"): [(0, "m"), "a", (1, "x"), "c", (2, 0, "z")]})
        self.assertEqual(list(found), [seat for seat, _ in came(LINE)])
        self.assertEqual(chains(line=[]), {})
        found[(0, "m")].append("bent")
        self.assertEqual(chains(LINE)[(0, "m")], [(0, "m")])

    def test_longer_ones(self):
        long = [(0, "m"), "a", (1, "x"), "b", (1, "y"), "a", (1, "x"), "c", (2, 0, "z"), "b", (1, "y")]
        self.assertIs(is_want_chain(LINE, long), True)
        self.assertIs(is_want_chain(thing=as_tuples(long), line=as_lists(LINE)), True)
        self.assertIs(is_want_chain(LINE, as_lists(long)), True)
        for index in range(len(long)):
            for thing in any_objects() + [(1, "y"), (2, 1, "z"), (1, "m"), "c", (True, "x"), (2, False, "z"), ["x", 1]]:
                bent = long[:index] + [thing] + long[index + 1:]
                self.assertIs(is_want_chain(LINE, bent), repr(bent) == repr(long), (index, thing))
        for thing in any_objects():
            self.assertIs(is_want_chain(LINE, thing), False)
        for thing in ([(1, "x")], [(1, "x"), "b", (1, "y")], [(0, "m"), "a"], [(0, "m"), "b", (1, "y")],
                      [(0, "m"), "start", (0, "m")], [(0, "m"), (1, "x")], [[0, "m"], "a", [1, "x"], "b"]):
            self.assertIs(is_want_chain(LINE, thing), False)
        self.assertIs(is_want_chain(LINE, [[0, "m"]]), True)
        self.assertIs(is_want_chain([], []), False)

    def test_as_short_as_can_be(self):
        rng = seeded(420)
        long = 0
        for _ in range(150):
            line = random_line(rng)
            found = chains(line)
            self.assertEqual(list(found), [seat for seat, _ in came(line)])
            for seat, chain in found.items():
                self.assertEqual(chain[-1], seat)
                self.assertTrue(is_chain_at_sight(line, chain))
                self.assertIs(is_want_chain(line, chain), True)
                long += len(chain) > 3
                for many in range(min(len(chain) // 2, 2)):
                    for names in itertools.product(NAMES, repeat=many):
                        for seats in itertools.product(found, repeat=many):
                            shorter = [one for pair in zip(seats, names) for one in pair] + [seat]
                            self.assertFalse(is_chain_at_sight(line, shorter) and len(shorter) < len(chain))
        self.assertGreater(long, 10)

    def test_bent_ones(self):
        rng = seeded(421)
        right = 0
        for _ in range(200):
            line = random_line(rng)
            seats = list(chains(line))
            if not seats:
                continue
            for _ in range(5):
                thing = list(chains(line)[rng.choice(seats)])
                for _ in range(rng.randint(1, 2)):
                    index = rng.randrange(len(thing))
                    thing[index] = rng.choice(NAMES) if index % 2 else rng.choice(seats)
                    if rng.random() < 0.3:
                        thing += [rng.choice(NAMES), rng.choice(seats)]
                self.assertIs(is_want_chain(line, thing), is_chain_at_sight(line, thing))
                right += is_chain_at_sight(line, thing)
        self.assertGreater(right, 50)


class Trimmed(unittest.TestCase):
    def test_by_hand(self):
        line = LINE + [("library", [member("q", "e")]), ("member", member("n"))]
        found = trimmed(line=as_lists(line))
        self.assertEqual(found, [as_tuples(thing) for thing in line[:3]] + [("library", ()), as_tuples(line[4])])
        self.assertIsInstance(found, list)
        self.assertEqual(as_tuples(found), tuple(found))
        self.assertEqual(trimmed([("group", [])]), [("group", ())])
        self.assertEqual(trimmed([("member", member("n", "a", "", ["a", "a"]))])[0][1][2], ("a", "a"))

    def test_the_same_come(self):
        rng = seeded(422)
        left_out = 0
        for _ in range(250):
            line = random_line(rng)
            found = trimmed(line)
            self.assertEqual(came(found), came(line))
            self.assertEqual(chains(found), chains(line))
            try:
                self.assertEqual(whose(found), whose(line))
            except Twice as error:
                with self.assertRaises(Twice) as caught:
                    whose(found)
                    whose(line)
                self.assertEqual(vars(caught.exception), vars(error))
            seats = {seat for seat, _ in came(line)}
            for index, (kind, of) in enumerate(found):
                for number, members in enumerate([of] if kind == "library" else of if kind == "group" else []):
                    way = (index,) if kind == "library" else (index, number)
                    self.assertTrue(all(way + (one[0],) in seats for one in members))
            left_out += found != [as_tuples(thing) for thing in line]
            self.assertEqual(trimmed(found), found)
        self.assertGreater(left_out, 100)


if __name__ == "__main__":
    unittest.main()
