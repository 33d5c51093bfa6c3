"""[43]: runs whose pieces are laid elsewhere while they run."""

import unittest

from loadanywhere.errors import BadAnswer, BadMove, Ended, NoDeed, NoPiece, NoPlace, Over, Strays, Unsure
from loadanywhere.images import Image
from loadanywhere.movers import Mover
from loadanywhere.plainruns import Machine
from loadanywhere.walks import lost_row
from loadanywhere.words import coded
from tests.alikes import ADD, ASK, COPY, GO, LESS, LOAD, SET, STORE, TAKE, TELL, by_chance, image, kind_waited_for
from tests.helpers import Raising, any_objects, at
from tests.naive import random_placing, seeded

PLACES = {"c": 100, "d": 10}


def keeping():
    """r1 is an address, r2 a number of takes and places, the words of d hold some, too; it is told and asked again."""
    return image([coded(SET, 1), at("d"), coded(TAKE, 2), coded(STORE, 2, 1, 1), coded(ADD, 2, 1), coded(ADD, 2, 1),
                  coded(COPY, 3, 0), coded(LESS, 3, 2), coded(TELL, 3), coded(ASK, 0, 0, -7), coded(0)], [at("c", 4), 0])


def standing(run):
    return (run.registers(), run.at(), run.words(), list(run.words()))


class ByHand(unittest.TestCase, Raising):
    def test_moves_between_gives(self):
        mover = Mover(places={"d": 10, "c": 100, "zz": None}, image=keeping())
        self.assertEqual(mover.places(), {"c": 100, "d": 10})
        self.assertEqual(mover.give([7]), [("take", 7), ("tell", -27)])
        self.assertEqual(mover.move({"d": 30}), 2)
        self.assertEqual(mover.places(), {"c": 100, "d": 40})
        self.assertEqual(mover.registers()[:4], (0, 40, 87, -87))
        self.assertEqual((mover.words()[40], mover.words()[41], mover.words()[101]), (104, 7, 40))
        self.assertNotIn(10, mover.words())
        self.assertEqual(mover.at(), 109)
        self.assertEqual(mover.move(moves={"c": -500}), 2)
        self.assertEqual((mover.at(), mover.words()[40]), (-391, -396))
        self.assertEqual(mover.events(), [("take", 7), ("tell", -27)])
        self.assertEqual(mover.give(answers=[True]), [("ask", True)])

    def test_ahead_of_the_first_give(self):
        mover = Mover(keeping(), PLACES)
        self.assertEqual(mover.move({"d": 5, "c": 1}), 0)
        self.assertEqual(mover.move({}), 0)
        self.assertEqual(mover.move({"d": -200}), 0)
        machine = Machine(keeping(), {"c": 101, "d": -185})
        self.assertEqual(standing(mover), standing(machine))
        self.assertEqual(mover.give([1, False]), machine.give([1, False]))
        self.assertEqual(standing(mover), standing(machine))

    def test_unsure(self):
        words = [coded(ASK, 0, 0, 3), coded(SET, 4), at("d"), coded(ASK, 0, 0, 3), coded(SET, 3), at("e"), coded(TAKE), coded(0)]
        one = Image([("e", "data", [1]), ("d", "data", [0]), ("c", "code", words)], ("c", 0))
        mover = Mover(one, {"c": 100, "d": 10, "e": 20})
        mover.give([])
        self.assertEqual(mover.move({"d": 1, "e": 1, "c": 1}), 0)
        mover.give([True, False])
        before = (standing(mover), mover.places())
        self.assert_raises_with(Unsure, {"p": "e", "where": ("register", 3)}, mover.move, {"d": 1, "c": 3, "e": 1})
        self.assert_raises_with(Unsure, {"p": "d", "where": ("register", 4)}, mover.move, {"c": 3, "d": -1, "e": 0})
        # Unsure comes ahead of Over.
        self.assert_raises_with(Unsure, {"p": "e", "where": ("register", 3)}, mover.move, {"e": -10})
        self.assertEqual((standing(mover), mover.places()), before)
        self.assertEqual(mover.move({"c": 3, "d": 0, "e": 0}), 2)
        self.assert_raises_with(Over, {"p": "e", "q": "c"}, mover.move, {"c": 21 - 104})
        self.assert_raises_with(Over, {"p": "e", "q": "c"}, mover.move, {"c": 21 - 104 - 7})

    def test_over_as_laid(self):
        mover = Mover(keeping(), PLACES)
        self.assert_raises_with(Over, {"p": "c", "q": "d"}, mover.move, {"d": 90})
        mover.give([1])
        before = standing(mover)
        self.assert_raises_with(Over, {"p": "c", "q": "d"}, mover.move, {"d": 89})
        self.assert_raises_with(Over, {"p": "c", "q": "d"}, mover.move, {"d": 99})
        self.assertEqual(standing(mover), before)
        self.assertEqual(mover.move({"d": 101}), 2)

    def test_errors_in_their_order(self):
        mover = Mover(keeping(), PLACES)
        mover.give([1, False])
        for thing in any_objects():
            if not isinstance(thing, dict):
                self.assert_raises_with(NoPiece, {"p": None}, mover.move, thing)
            if not isinstance(thing, int) or isinstance(thing, bool):
                self.assert_raises_with(BadMove, {"p": "d"}, mover.move, {"c": 1, "d": thing})
        self.assert_raises_with(NoPiece, {"p": "zz"}, mover.move, {"c": None, "zz": 1})
        for moves in ({}, {"c": 0}, {"c": -60, "d": 0}):
            self.assert_raises_with(Ended, {}, mover.move, moves)
        self.assert_raises_with(Ended, {}, mover.give, [1])
        self.assertEqual(mover.give([]), [])

    def test_errors_at_first(self):
        self.assert_raises_with(NoPlace, {"p": "c"}, Mover, keeping(), None)
        self.assert_raises_with(NoPlace, {"p": "d"}, Mover, keeping(), {"c": 0, "d": True})
        self.assert_raises_with(Over, {"p": "c", "q": "d"}, Mover, keeping(), {"c": 0, "d": 9})
        lost = image([coded(ASK, 0, 0, 0), coded(ASK, 0, 0, 7), coded(0)])
        self.assert_raises_with(Strays, {"answers": (False, True)}, Mover, lost, {"c": 0, "d": 0})
        self.assert_raises_with(NoPlace, {"p": "c"}, Mover, lost, {})
        self.assert_raises_with(Strays, {"answers": ()}, Mover, image([coded(LOAD)]), {"c": 0, "d": 0})

    def test_gives_are_those_of_a_machine(self):
        mover = Mover(keeping(), PLACES)
        for thing in any_objects():
            if not isinstance(thing, (list, tuple)):
                self.assert_raises_with(BadAnswer, {"index": 0}, mover.give, thing)
        self.assert_raises_with(BadAnswer, {"index": 1}, mover.give, [1, 1])
        self.assertEqual(mover.events(), [])
        self.assertEqual(mover.give((3, True, 4, False, None)), Machine(keeping(), PLACES).give([3, True, 4, False]))


class Deeds(unittest.TestCase, Raising):
    def test_undo_and_again_over_gives_and_moves(self):
        mover = Mover(keeping(), PLACES)
        self.assert_raises_with(NoDeed, {}, mover.undo)
        rows = [(standing(mover), mover.places(), mover.events())]
        for change in (lambda: mover.move({"d": 1}), lambda: mover.give([5]), lambda: mover.move({"c": 400, "d": 7}),
                       lambda: mover.move({}), lambda: mover.give([True, 6, False])):
            change()
            rows.append((standing(mover), mover.places(), mover.events()))
        for row in reversed(rows[:-1]):
            self.assertEqual(mover.undo(), len(row[2]))
            self.assertEqual((standing(mover), mover.places(), mover.events()), row)
        self.assert_raises_with(NoDeed, {}, mover.undo)
        for row in rows[1:]:
            self.assertEqual(mover.again(), len(row[2]))
            self.assertEqual((standing(mover), mover.places(), mover.events()), row)
        self.assert_raises_with(NoDeed, {}, mover.again)
        mover.undo()
        self.assert_raises_with(Over, {"p": "c", "q": "d"}, mover.move, {"c": -482})
        self.assertEqual(mover.again(), len(rows[-1][2]))
        mover.undo()
        mover.move({"d": 1})
        self.assert_raises_with(NoDeed, {}, mover.again)

    def test_undo_to_ahead_of_the_first_give(self):
        words = [coded(SET, 1), at("d"), coded(TAKE, 2), coded(SET, 3), at("d"), coded(ADD, 1, 3), coded(GO, 0, 0, -4)]
        mover = Mover(image(words, [0]), PLACES)
        mover.give([])
        self.assert_raises_with(Unsure, {"p": "d", "where": ("register", 1)}, mover.move, {"d": 1})
        mover.undo()
        self.assertEqual(mover.move({"d": 1}), 0)

    def test_what_is_returned_is_changed_behind(self):
        places = dict(PLACES)
        mover = Mover(keeping(), places)
        places.clear()
        mover.places().clear()
        mover.words().clear()
        mover.give([1]).clear()
        mover.events().clear()
        moves = {"d": 4}
        mover.move(moves)
        self.assertEqual((moves, mover.places(), len(mover.words())), ({"d": 4}, {"c": 100, "d": 14}, 13))
        self.assertEqual(len(mover.events()), 2)


class BesideRunsFromTheBeginning(unittest.TestCase, Raising):
    def test_by_chance(self):
        rng = seeded(95)
        moved = {}
        for _ in range(250):
            one = by_chance(rng)
            places = random_placing(rng, one)
            if lost_row(one) is not None:
                self.assert_raises_with(Strays, {"answers": lost_row(one)}, Mover, one, places)
                continue
            self.follow(rng, one, places, moved)
        self.assertGreater(moved["moved"], 200)
        self.assertGreater(moved["unsure"], 40)

    def follow(self, rng, one, places, moved):
        mover = Mover(one, places)
        places = dict(places)
        answers = []
        has_begun = False
        for _ in range(8):
            if rng.random() < 0.5:
                kind = kind_waited_for(one, places, answers) if has_begun else None
                if has_begun and kind is None:
                    return
                more = [] if not has_begun else [rng.random() < 0.5 if kind == "ask" else rng.randint(-5, 5)]
                mover.give(more)
                answers += more
                has_begun = True
            else:
                moves = {p: rng.choice([0, 0, 1, -3, 100]) for p in places if rng.random() < 0.7}
                try:
                    self.assertEqual(mover.move(moves), len(mover.events()))
                except (Unsure, Over, Ended) as error:
                    name = error.__class__.__name__.lower()
                    moved[name] = moved.get(name, 0) + 1
                    continue
                moved["moved"] = moved.get("moved", 0) + any(moves.values())
                places = {p: place + moves.get(p, 0) for p, place in places.items()}
            machine = Machine(one, places)
            if has_begun:
                kinds = [event[0] for event in machine.give(answers)]
                self.assertEqual([event[0] for event in mover.events()], kinds)
            self.assertEqual(standing(mover), standing(machine))
            self.assertEqual(mover.places(), places)


class Words(unittest.TestCase):
    def test_copies(self):
        one = image([coded(SET, 1), at("d"), coded(COPY, 2, 1), coded(LOAD, 3, 1), coded(TAKE), coded(TELL, 3), coded(0)],
                    [(5, [(("piece", "c"), 2), (("piece", "d"), -1)])])
        mover = Mover(one, PLACES)
        mover.give([])
        self.assertEqual(mover.registers()[1:4], (10, 10, 195))
        mover.move({"c": 1, "d": 10})
        self.assertEqual(mover.registers()[1:4], (20, 20, 187))
        self.assertEqual(mover.give([0]), [("take", 0), ("tell", 187), ("stop",)])
