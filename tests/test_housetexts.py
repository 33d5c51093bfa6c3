"""[99]: houses as texts, and read from them."""

import unittest

from loadanywhere.errors import NoHouse, Renewed
from loadanywhere.houses import House
from loadanywhere.housetexts import house_text, read_house
from tests.helpers import Raising, any_objects
from tests.housing import BEGINNING, outcome, random_deed
from tests.naive import seeded
from tests.test_houses import LED, PLACES, SLOW, begun, lines

SMALL = lines(
    "source a", " code main", " start:", " take r1", " ask start", " stop", " told start",
    "source b", " ",
    "line l", " member a", " library", "  member a", "  member b start", " group", "  library", "   member b w w", "  library",
    " member b x",
    "line m", " member a start",
    "line o",
    "image i", " of m start",
    "run r", " of i", " at main -5", " answers 4 yes -12 no",
    "run s", " of i", " at main 100", " answers")


def bent(text, number, *rows):
    """The text with a line, by its number from 1, replaced by others."""
    held = text.split("\n")
    return "\n".join(held[:number - 1] + list(rows) + held[number:])


class Told(unittest.TestCase, Raising):
    def test_by_hand(self):
        house = House()
        house.put_source("b", "")
        house.put_source("a", "code main\nstart:\ntake r1\nask start\nstop\ntold start")
        house.put_line("o", [])
        house.put_line("m", [("member", ("a", ["start"]))])
        house.put_line("l", [("member", ("a", [])), ("library", [("a", []), ("b", ["start"])]),
                             ("group", [[("b", ["w", "w"])], []]), ("member", ("b", ["x"]))])
        house.put_image("i", "m", "start")
        house.start("s", "i", {"main": 100, "besides": 7})
        house.start("r", "i", {"main": -5})
        house.give("r", [4])
        house.give("r", [True, -12, False, 99, True])
        self.assertEqual(house_text(house=house), SMALL)
        self.assertEqual(house_text(House()), "")
        # Sources need not be texts that can be assembled, nor lines of sources that are there.
        house = House()
        house.put_source("a", "\n  x y\n")
        house.put_line("l", [("library", [("z", [])])])
        self.assertEqual(house_text(house), "source a\n \n   x y\n \nline l\n library\n  member z")

    def test_places_as_it_was_laid_at_first(self):
        house = begun()
        house.start("r", "i", dict(reversed(list(PLACES.items()))))
        self.assertTrue(house_text(house).endswith(lines(
            "run r", " of i", " at main 0", " at tab 100", " at sub 50", " at cell -20", " answers")))

    def test_renewed(self):
        house = begun()
        for n in ("t", "r", "s"):
            house.start(n, "i", PLACES)
        house.put_source("b", SLOW)
        for n in ("t", "s"):
            house.renew(n, LED)
        self.assert_raises_with(Renewed, {"n": "s"}, house_text, house)
        house.start("s", "i", PLACES)
        self.assert_raises_with(Renewed, {"n": "t"}, house_text, house)
        house.give("t", [5])
        self.assert_raises_with(Renewed, {"n": "t"}, house_text, house)
        house.drop("run", "t")
        house_text(house)
        house.undo()
        house.undo()
        house.undo()
        house.undo()
        # The renewing of s is undone.
        self.assert_raises_with(Renewed, {"n": "t"}, house_text, house)

    def test_nothing_is_changed(self):
        house = begun()
        house_text(house)
        self.assertEqual((house.count(), house.made()), (5, []))


class Read(unittest.TestCase, Raising):
    def test_there_and_back(self):
        house = read_house(text=SMALL)
        self.assertEqual(house_text(house), SMALL)
        self.assertEqual(house.run("r"), [("take", 4), ("ask", True), ("take", -12), ("ask", False), ("stop",)])
        self.assertEqual((house.run("s"), house.placed("s")), ([], {"main": 100}))
        self.assertEqual(house.needs("line", "l"), [("source", "a"), ("source", "b")])
        self.assertEqual(house.count(), 2 + 3 + 1 + 3)
        self.assertEqual(house_text(read_house("")), "")
        self.assertEqual(read_house("").count(), 0)
        self.assertEqual(house.undo(), "start")

    def test_no_strings(self):
        for thing in any_objects() + [b""]:
            if thing.__class__ is not str:
                self.assert_raises_with(NoHouse, {"line": 0}, read_house, thing)

    def test_each_line(self):
        numbers = {row: number for number, row in enumerate(SMALL.split("\n"), 1)}
        self.assertEqual(len(SMALL.split("\n")), 32)
        nowhere = ("", "x", " x", "source", "source A", "source a b", "Source z", "sources z", "line", "line 5", "image",
                   "run", "run R", " source z", "house", "source  z", "source z ", " member", "   member z", "  library x",
                   " of", " of i", " at main 5", " answers 5", "\t")
        for number in (1, 8, 20, 23, 25):
            for wrong in nowhere:
                if number == 1 or not wrong.startswith(" ") or SMALL.split("\n")[number - 2][:2] not in (" s", " t", " "):
                    if number == 8 and wrong.startswith(" ") or number == 20 and wrong.startswith(" member z"):
                        continue
                    self.assert_raises_with(NoHouse, {"line": number}, read_house, bent(SMALL, number, wrong))
        for wrong in (" member", " member A", " member a B", " member a  b", " member a ", "  member a", "  library",
                      "   member a", " library x", " group x", " libraries", " members a", " member a 5", "    library"):
            self.assert_raises_with(NoHouse, {"line": 11}, read_house, bent(SMALL, 11, wrong))
        for number, rows in ((13, ("  member a", "  member a")), (14, ("  member a",)), (14, ("   member z",)),
                             (14, ("  library",)), (14, ("  group",)), (16, ("  member b",)), (16, ("   member b",)),
                             (16, ("  library x",)), (17, ("  member b",)), (17, ("    member b",)), (17, ("   library",)),
                             (18, ("   member b",))):
            self.assert_raises_with(NoHouse, {"line": number + len(rows) - 1}, read_house, bent(SMALL, number, *rows))
        for wrong in (" of", " of m", " of m start x", " of M start", " of m Start", " of z start", "  of m start",
                      " on m start", "of m start", " at m start", "line z", ""):
            self.assert_raises_with(NoHouse, {"line": 24}, read_house, bent(SMALL, 24, wrong))
        for wrong in (" of", " of I", " of i x", " at main 5", " answers", "run s", "", "  of i"):
            self.assert_raises_with(NoHouse, {"line": 26}, read_house, bent(SMALL, 26, wrong))
        for wrong in (" at", " at main", " at main x", " at main 05", " at main +5", " at main -0", " at main --5",
                      " at main 5 5", " at Main 5", " at main 5.0", "  at main 5", " at main ", " at main -", "at main 5"):
            self.assert_raises_with(NoHouse, {"line": 27}, read_house, bent(SMALL, 27, wrong))
        self.assert_raises_with(NoHouse, {"line": 28}, read_house, bent(SMALL, 27, " at main 5", " at main 5"))
        self.assert_raises_with(NoHouse, {"line": 28}, read_house, bent(SMALL, 27, " at main 5", " at main 6"))
        for wrong in (" answers 05", " answers +5", " answers  5", " answers 5 ", " answers Yes", " answers yes,no", "answers",
                      "  answers", " answer 5", "run s", " at other x", " of i", " answers -0", " answers true", " answers 4 x"):
            self.assert_raises_with(NoHouse, {"line": 28}, read_house, bent(SMALL, 28, wrong))
        self.assertEqual(numbers[" answers 4 yes -12 no"], 28)

    def test_runs_that_cannot_be_begun_or_given_so(self):
        for number, wrong in ((28, " answers yes"), (28, " answers 4 5"), (28, " answers 4 yes no"),
                              (28, " answers 4 no yes x")):
            self.assert_raises_with(NoHouse, {"line": number}, read_house, bent(SMALL, number, wrong))
        # A place lacks, the image is not there, or cannot be made.
        self.assert_raises_with(NoHouse, {"line": 27}, read_house, bent(SMALL, 27))
        self.assert_raises_with(NoHouse, {"line": 28}, read_house, bent(SMALL, 27, " at mail 5"))
        self.assert_raises_with(NoHouse, {"line": 28}, read_house, bent(SMALL, 26, " of z"))
        self.assert_raises_with(NoHouse, {"line": 28}, read_house, bent(SMALL, 24, " of o start"))
        self.assert_raises_with(NoHouse, {"line": 28}, read_house, bent(SMALL, 24, " of l nothere"))
        self.assert_raises_with(NoHouse, {"line": 28}, read_house, bent(SMALL, 4, " take"))

    def test_names_ascend(self):
        for number, wrong in ((8, "source a"), (20, "line k"), (20, "line l"), (23, "line n"), (23, "source z"), (29, "run r"),
                              (29, "run q"), (29, "image j"), (25, "image a"), (22, "source c")):
            self.assert_raises_with(NoHouse, {"line": number}, read_house, bent(SMALL, number, wrong))

    def test_one_more_than_there_are(self):
        held = SMALL.split("\n")
        for many in range(1, len(held) + 1):
            part = "\n".join(held[:many])
            ends = held[many - 1].startswith(("source", "image", "run")) or held[many - 1].startswith((" at", " of i"))
            if ends:
                self.assert_raises_with(NoHouse, {"line": many + 1}, read_house, part)
            else:
                self.assertEqual(house_text(read_house(part)), part)
        self.assert_raises_with(NoHouse, {"line": 33}, read_house, SMALL + "\n")
        self.assert_raises_with(NoHouse, {"line": 1}, read_house, "\n")
        self.assert_raises_with(NoHouse, {"line": 2}, read_house, "source a\n")

    def test_another_text(self):
        # At lines of other pieces, or in another order, can stand; so can answers that are passed over.
        for number, rows in ((27, (" at main -5", " at other 7")), (27, (" at aa 0", " at main -5")),
                             (28, (" answers 4 yes -12 no 5",)), (28, (" answers 4 no yes",))):
            self.assert_raises_with(NoHouse, {"line": 0}, read_house, bent(SMALL, number, *rows))
        house = begun()
        house.start("r", "i", PLACES)
        text = house_text(house)
        self.assertEqual(house_text(read_house(text)), text)
        at = len(text.split("\n")) - 4
        self.assertEqual(text.split("\n")[at - 1], " at main 0")
        swapped = bent(bent(text, at, " at tab 100"), at + 1, " at main 0")
        self.assert_raises_with(NoHouse, {"line": 0}, read_house, swapped)
        self.assert_raises_with(NoHouse, {"line": at + 4}, read_house, bent(text, at, " at main 99"))

    def test_by_chance(self):
        rng = seeded(470)
        read = 0
        for _ in range(60):
            house = House()
            for name, *some in list(BEGINNING) + [random_deed(rng) for _ in range(10)]:
                if name != "renew":
                    outcome(getattr(house, name), *some)
            text = house_text(house)
            old = any(outcome(house.is_old, n)[1] is not False for n in house.all_kept("run"))
            found = outcome(read_house, text)
            if found[0] == "NoHouse":
                self.assertTrue(old)
                continue
            read += 1
            newer = found[1]
            self.assertEqual(house_text(newer), text)
            for n in house.all_kept("run"):
                if not old and house.run(n):
                    self.assertEqual(newer.run(n), house.run(n) if house.run(n)[-1:] else [])
                self.assertEqual(newer.placed(n), house.placed(n))
            for n in "abcd":
                self.assertEqual(outcome(newer.unit, n), outcome(house.unit, n))
        self.assertGreater(read, 20)

    def test_bent_by_chance(self):
        rng = seeded(471)
        held = SMALL.split("\n")
        for _ in range(300):
            rows = list(held)
            for _ in range(rng.randint(1, 2)):
                index = rng.randrange(len(rows))
                chance = rng.random()
                if chance < 0.3:
                    del rows[index]
                elif chance < 0.6:
                    rows.insert(index, rng.choice(held))
                else:
                    rows[index] = rng.choice([" " + rows[index], rows[index][1:], rows[index] + " x", rows[index] + " 5"])
            text = "\n".join(rows)
            try:
                house = read_house(text)
            except NoHouse as error:
                self.assertTrue(0 <= error.line <= len(rows) + 1)
                if error.line > 1:
                    # What stands ahead can stand, whatever comes behind.
                    ahead = outcome(read_house, "\n".join(rows[:error.line - 1]))
                    self.assertIn(ahead[0] if ahead[0] == "told" else ahead[1]["line"], ("told", 0, error.line))
            else:
                self.assertEqual(house_text(house), text)


if __name__ == "__main__":
    unittest.main()
