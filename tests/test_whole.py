"""The whole: texts assembled, linked, struck, laid, run and exchanged, beside each other."""

import unittest

from loadanywhere.assembling import assembled, draft_of
from loadanywhere.deadparts import folded, reached, struck
from loadanywhere.errors import WordError
from loadanywhere.exchanges import Exchange
from loadanywhere.freetold import free_events
from loadanywhere.houses import House
from loadanywhere.housetexts import house_text, read_house
from loadanywhere.lineup import came, linked, whose
from loadanywhere.lots import lot_of, row_of
from loadanywhere.movers import Mover
from loadanywhere.partings import looks_at_places
from loadanywhere.plainruns import Machine, played
from loadanywhere.relocating import mended, plain, relocations
from loadanywhere.rowends import shortest
from loadanywhere.runners import Runner
from loadanywhere.sums import put_in
from loadanywhere.textforms import rows_back, written_out
from loadanywhere.units import Unit, bound, image_of, together
from loadanywhere.walks import alike
from loadanywhere.wantchains import chains, is_want_chain, trimmed
from tests.helpers import at
from tests.naive import seeded


def lines(*rows):
    return "\n".join(rows)


MAIN = lines(
    "let cell 1", "macro loop x", "back:", "take r1", "callfar x", "load r2 r5 cell", "tell r2", "askany back", "end",
    "code main", "start:", "set r5 table", "loop double", "loop double", "callany last", "stop",
    "data table", "word unused 0", "told start")
LIBRARY = (
    ("twice", lines("code twice", "double:", "add r1 r1", "goany keep", "told double")),
    ("keeps", lines("code keeps", "keep:", "load r2 r5 1", "add r2 r1", "store r2 r5 1", "jump r7", "told keep")),
    ("lasts", lines("code lasts", "last:", "tell r2", "jump r7", "told last")),
    ("nobody", lines("code nobody", "nothing:", "goany keep", "told nothing")),
    ("alone", lines("data alone", "unused:", "word 1 2", "told unused")),
)
# The same, with the number put together otherwise.
NEWER = lines("code keeps", "keep:", "copy r3 r1", "load r2 r5 1", "add r3 r2", "copy r2 r3", "store r3 r5 1", "set r3 0",
              "jump r7", "told keep")


def line_of_all(newer=None):
    members = [(m, assembled(newer if m == "keeps" and newer else text), []) for m, text in LIBRARY]
    return [("member", ("main", assembled(MAIN), [])), ("library", members[::-1])]


class Whole(unittest.TestCase):
    def image(self, newer=None):
        unit = linked(line_of_all(newer))
        return image_of(struck(unit, ["start"]), "start")

    def test_from_text_to_run(self):
        line = line_of_all()
        self.assertEqual([seat[1] for seat, _ in came(line)], ["main", "alone", "lasts", "twice", "keeps"])
        self.assertEqual(whose(line)["keep"], (1, "keeps"))
        for seat, chain in chains(line).items():
            self.assertTrue(is_want_chain(line, chain))
            self.assertEqual(chain[-1], seat)
        self.assertEqual(came(trimmed(line)), came(line))
        unit = linked(line)
        self.assertEqual(reached(unit, ["start"]), ["main", "table", "alone", "lasts", "twice", "keeps"])
        image = image_of(struck(unit, ["start"]), "start")
        self.assertEqual(mended(plain(unit), relocations(unit)), unit)
        answers = [5, True, 2, False, 1, False]
        right = [("take", 5), ("tell", 10), ("ask", True), ("take", 2), ("tell", 14), ("ask", False), ("take", 1),
                 ("tell", 16), ("ask", False), ("tell", 16), ("stop",)]
        lot = lot_of(image, {"main": 64, "table": 4})
        for order in (shortest(lot)[0], tuple(reversed(list(lot)))):
            self.assertEqual(played(image, row_of(lot, order, 1000), answers), right)
        self.assertIsNone(looks_at_places(image))
        # The free run tells the same, as sums of what is handed in ([14]).
        taken = {("in", k): number for k, number in enumerate([5, 2, 1], 1)}
        free = free_events(image, [answer for answer in answers if isinstance(answer, bool)])
        told = [put_in(event[1], taken)[0] for event in free if event[0] == "tell"]
        self.assertEqual(told, [event[1] for event in right if event[0] == "tell"])

    def test_alike_ways_to_be_assembled(self):
        image = self.image()
        for change in (written_out, lambda text: rows_back(assembled(text))):
            unit = Unit([])
            for text in [MAIN] + [text for _, text in LIBRARY]:
                unit = together(unit, assembled(change(text)))
            self.assertTrue(alike(image, image_of(unit, "start")))
            self.assertTrue(alike(image, image_of(folded(unit), "start")))
        far = {"main": draft_of(MAIN, "main").branches()}
        unit = assembled(MAIN, far)
        for _, text in LIBRARY:
            unit = together(unit, assembled(text))
        self.assertGreater(len(unit), len(linked(line_of_all())))
        self.assertTrue(alike(image, image_of(unit, "start")))
        self.assertFalse(alike(image, image_of(together(assembled(MAIN.replace("let cell 1", "let cell 0")), bound(
            linked_library())), "start")))

    def test_moved_and_exchanged(self):
        one, other = self.image(), self.image(NEWER)
        self.assertTrue(alike(one, other))
        led = {(p, k): (p, k) for p, kind, words in one.pieces() if kind == "code" and p != "keeps" for k in range(len(words))}
        led[("keeps", 0)] = ("keeps", 0)
        points = Exchange(one, other, led).unseen()
        self.assertEqual(len(points), 4)
        places = row_of(lot_of(one), list(lot_of(one)), 100)
        machine, mover, runner = Machine(one, places), Mover(one, places), Runner(one, places)
        newer = {p: 5000 + 100 * number for number, (p, _, _) in enumerate(other.pieces())}
        for number, answer in enumerate([5, True, 2, True, 7, False, 1, False]):
            right = machine.give([answer])
            if number:
                mover.move({"twice": 10000 * number, "keeps": -9999 * number})
                runner.exchange(*((other, led, newer) if number % 2 else (one, back(led), places)))
            self.assertEqual(mover.give([answer]), right)
            self.assertEqual(runner.give([answer]), right)
        self.assertEqual(machine.events(), runner.events())
        self.assertEqual(machine.events()[-2:], [("tell", 30), ("stop",)])

    def test_in_a_house(self):
        house = House()
        house.put_source("main", MAIN)
        for m, text in LIBRARY:
            house.put_source(m, text)
        house.put_line("all", [("member", ("main", [])), ("library", [(m, []) for m, _ in LIBRARY[::-1]])])
        house.put_image("prog", "all", "start")
        image = self.image()
        self.assertEqual(house.image("prog"), image)
        places = row_of(lot_of(image), list(lot_of(image)), 100)
        house.start("run", "prog", places)
        self.assertEqual(house.give("run", [5, True]), played(image, places, [5, True])[:-1])
        text = house_text(house)
        newer = read_house(text)
        self.assertEqual((newer.run("run"), newer.image("prog")), (house.run("run"), image))
        house.put_source("keeps", NEWER)
        self.assertTrue(house.is_old("run"))
        self.assertEqual(house.image("prog"), self.image(NEWER))
        led = {(p, k): (p, k) for p, kind, words in image.pieces() if kind == "code" for k in range(min(3, len(words)))}
        led.update({("main", k): ("main", k) for k in range(len(image.pieces()[0][2]))})
        found = house.tried([["renew", "run", led], ["give", "run", [2, False]]], lambda inner: inner.run("run"))
        self.assertEqual(found, played(image, places, [5, True, 2, False])[:-1])
        self.assertEqual(house.run("run"), newer.run("run"))
        house.renew("run", led)
        self.assertEqual(house.give("run", [2, False]), [("take", 2), ("tell", 14), ("ask", False)])
        house.give("run", [1, False])
        self.assertEqual(house.run("run"), played(image, places, [5, True, 2, False, 1, False]))
        with self.assertRaises(WordError):
            house_text(house)

    def test_names_that_stand_for_places(self):
        # A word is the same sum by a text, by its row back, and by hand.
        text = lines("data tab", "la:", "word 2*la-tab+3 others", "told la")
        for unit in (assembled(text), assembled(written_out(text)), assembled(rows_back(assembled(text)))):
            self.assertEqual(unit, Unit([("tab", "data", [at("tab", 3), (0, [(("name", "others"), 1)])])], {"la": ("tab", 0)}))

    def test_by_chance(self):
        # However libraries are split into things, what is reached from the start does the same.
        rng = seeded(480)
        image = self.image()
        members = line_of_all()[1][1]
        for _ in range(12):
            some = list(members)
            rng.shuffle(some)
            cut = rng.randint(0, len(some))
            line = [line_of_all()[0], ("group", [some[:cut], some[cut:]])]
            other = image_of(struck(linked(line), ["start"]), "start")
            self.assertTrue(alike(image, other))


def linked_library():
    unit = Unit([])
    for _, text in LIBRARY:
        unit = together(unit, assembled(text))
    return unit


def back(led):
    return {aim: address for address, aim in led.items()}


if __name__ == "__main__":
    unittest.main()
