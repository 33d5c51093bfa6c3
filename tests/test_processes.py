"""[37]: processes."""

import unittest

from loadanywhere.errors import (
    BadAhead, BadAnswer, BadStart, Ended, IsOpen, NoDeed, NoModule, NoName, NotBound, NotOpen,
)
from loadanywhere.freetold import free_events
from loadanywhere.holdings import early_image, held_by, loaded_unit
from loadanywhere.modules import Module, Shelf
from loadanywhere.processes import Process
from loadanywhere.spaces import Space
from loadanywhere.units import Unit
from loadanywhere.words import coded
from tests.helpers import Raising, any_objects, at, named
from tests.naive import seeded
from tests.shelves import (
    ADD, ASK, COPY, GO, JUMP, LOAD, SET, STORE, TAKE, TELL, NaiveProcess, random_shelf, small_shelf,
)

ZERO = ("number", (0, ()))


def shelf_of(code, data, wanted_late, weak=()):
    """main with this code and data; lib tells x in code and y in data, far tells z."""
    main = Unit([("c", "code", code), ("d", "data", data)], {"main": ("c", 0)})
    lib = Unit([("l", "code", [coded(TELL, 2), coded(ASK, 0, 0, 0), coded(0)]), ("m", "data", [7, named("z")])],
               {"x": ("l", 0), "y": ("m", 0)})
    far = Unit([("f", "data", [8])], {"z": ("f", 0)})
    return Shelf([Module("main", main, [], weak, wanted_late), Module("lib", lib, ["far"]), Module("far", far)])


class Runs(unittest.TestCase, Raising):
    def test_by_hand(self):
        process = Process(name="main", root="main", shelf=small_shelf())
        self.assertEqual(process.events(), [])
        self.assertEqual(process.state()[0], ("main", 0))
        self.assertEqual(process.give([]), [("tell", at("lib", 0))])
        self.assertEqual(process.space().bound(), {("main", "one"): "lib"})
        self.assertEqual(process.state()[2], {
            ("slots", 0): ("at", "lib", 0), ("slots", 1): ZERO, ("slots", 2): ("at", "lib", 0),
            ("lib", 0): ("number", (1, ())), ("lib", 1): ("number", (2, ()))})
        self.assertEqual(process.give(answers=(False,)), [("ask", False), ("tell", (0, ()))])
        self.assertEqual(process.space().bound(), {("main", "maybe"): None, ("main", "one"): "lib"})
        self.assertEqual(process.give([True, False, True]), [
            ("ask", True), ("tell", (0, ())), ("ask", False), ("stop",)])
        self.assertEqual(len(process.events()), 7)

    def test_gives_ahead_of_between_and_behind_opens(self):
        process = Process(small_shelf(), "main", "main")
        process.bring("other", True)
        self.assertEqual(process.give([True]), [("tell", at("other", 1)), ("ask", True), ("tell", at("other", 1))])
        process.close("other")
        self.assertEqual(process.space().opened(), ["main"])
        self.assertEqual(process.space().loaded(), ["main", "lib", "other"])
        self.assertEqual(process.give([False]), [("ask", False), ("tell", (0, ()))])
        process.bring("other")
        self.assertEqual(process.give([False, True]), [("ask", False), ("stop",)])
        process.close("other")
        process.close("main")
        self.assertEqual(process.space().loaded(), ["main", "other"])
        self.assertEqual(process.give([]), [])

    def test_slots_are_bound_at_a_load_alone(self):
        process = Process(small_shelf(), "main", "main")
        self.assertEqual(process.space().bound(), {})
        self.assertEqual(process.state()[2][("slots", 0)], ZERO)
        process.give([])
        process.bring("other", True)
        self.assertEqual(process.give([True])[1], ("tell", at("lib", 0)))

    def test_unbound(self):
        code = [coded(SET, 1), at("d"), coded(LOAD, 2, 1, 0), coded(ASK, 0, 0, 1), coded(LOAD, 3, 1, 1), coded(0)]
        process = Process(shelf_of(code, [named("x"), named("y")], ["x", "y"], ["x"]), "main", "main")
        self.assertEqual(process.give([False]), [("ask", False), ("unbound", "main", "y")])
        self.assertEqual(process.state()[0], ("c", 4))
        self.assertEqual(process.state()[1][2], ZERO)
        self.assertEqual(process.space().bound(), {("main", "x"): None})
        self.assert_raises_with(Ended, {}, process.give, [True])
        process.bring("lib")
        self.assertEqual(process.give(()), [])

    def test_a_store_to_a_slot(self):
        code = [coded(SET, 1), at("d"), coded(STORE, 1, 1, 0), coded(LOAD, 2, 1, 0), coded(TELL, 2),
                coded(ASK, 0, 0, 1), coded(LOAD, 2, 1, 1), coded(ASK, 0, 0, 1), coded(STORE, 3, 1, 1), coded(0)]
        process = Process(shelf_of(code, [named("x"), named("x"), named("x")], ["x"]), "main", "main")
        self.assertEqual(process.give([]), [("tell", at("d", 0))])
        self.assertEqual(process.space().bound(), {})
        process.bring("lib")
        process.give([False])
        self.assertEqual(process.space().bound()[("main", "x")], "lib")
        self.assertEqual([process.state()[2][("d", k)] for k in range(3)],
                         [("at", "d", 0), ("at", "l", 0), ("at", "l", 0)])
        process.give([False])
        self.assertEqual([process.state()[2][("d", k)] for k in range(3)],
                         [("at", "d", 0), ZERO, ("at", "l", 0)])

    def test_numbers_are_counted_on(self):
        code = [coded(TAKE, 1), coded(ADD, 2, 1), coded(TELL, 2), coded(ASK, 0, 0, -3), coded(0)]
        process = Process(shelf_of(code, [], []), "main", "main")
        self.assertEqual(process.give([True])[-1], ("tell", (0, ((("in", 1), 1), (("in", 2), 1)))))
        process.bring("lib")
        self.assertEqual(process.give([True])[-1], ("tell", (0, ((("in", 1), 1), (("in", 2), 1), (("in", 3), 1)))))
        process.undo()
        process.undo()
        self.assertEqual(process.give([True])[-1][1][1][-1], (("in", 3), 1))

    def test_silent_is_counted_over_gives(self):
        code = [coded(ASK, 0, 0, 1), coded(GO, 0, 0, 0)]
        process = Process(shelf_of(code, [], []), "main", "main")
        self.assertEqual(process.give([]), [])
        self.assertEqual(process.give([True]), [("ask", True), ("silent",)])

    def test_without_opens_it_is_as_the_early_image(self):
        rng = seeded(38)
        done = 0
        while done < 60:
            shelf = random_shelf(rng, rng.randint(2, 5))
            row = [rng.random() < 0.5 for _ in range(8)]
            try:
                image = early_image(shelf, "ma", "begin")
            except NotBound:
                continue
            events = free_events(image, row)
            process = Process(shelf, "ma", "begin")
            told = process.give(row[:4])
            if not told or told[-1][0] not in ("stop", "lost"):
                told += process.give(row[4:])
            self.assertEqual(told, events[:-1] if events[-1] == ("wait",) else events)
            done += 1


class Holding(unittest.TestCase, Raising):
    def test_where_it_stands(self):
        code = [coded(SET, 1), at("d"), coded(LOAD, 2, 1, 0), coded(JUMP, 2)]
        process = Process(shelf_of(code, [named("x"), 0], ["x"]), "main", "main")
        process.bring("lib")
        process.give([])
        self.assertEqual(process.state()[0], ("l", 1))
        process.close("main")
        self.assertEqual(process.space().loaded(), ["main", "lib", "far"])
        process.close("lib")
        self.assertEqual(process.space().loaded(), ["main", "lib", "far"])
        self.assertIsNone(held_by(process.space(), "lib"))

    def test_registers_and_data_words(self):
        """start gets an address of lib by a late name, and then loses it register by register."""
        code = [coded(SET, 1), at("d"), coded(LOAD, 2, 1, 0), coded(STORE, 2, 1, 1), coded(STORE, 3, 1, 0),
                coded(ASK, 0, 0, 0), coded(COPY, 2, 3), coded(ASK, 0, 0, 0), coded(STORE, 3, 1, 1), coded(ASK, 0, 0, 0)]
        own = Unit([("c", "code", code), ("d", "data", [named("w"), 0])], {"main": ("c", 0)})
        mid = Unit([("e", "data", [named("y", 40), named("z")])], {"w": ("e", 0)})
        far = Unit([("f", "data", [8])], {"y": ("f", 0), "z": ("f", 0)})
        gone = Module("gone", Unit([("g", "data", [at("g")])]))
        shelf = Shelf([Module("main", own, [], [], ["w"]), Module("mid", mid, [], [], ["z"]), Module("far", far), gone])
        process = Process(shelf, "main", "main")
        process.bring("far")
        process.bring("mid")
        process.give([])
        for name in ("mid", "far"):
            process.close(name)
        self.assertEqual(process.space().loaded(), ["main", "far", "mid"])
        # The slot was bound, so the name holds mid though the slot holds another thing now.
        process.give([False, False])
        self.assertEqual(process.space().loaded(), ["main", "far", "mid"])
        process.bring("gone")
        process.close("gone")
        self.assertEqual(process.space().loaded(), ["main", "far", "mid"])
        self.assertEqual(process.state()[2][("e", 0)], ("at", "f", 40))

    def test_looked_at_when_a_module_is_closed_alone(self):
        """hop leaves for main by a register; what it held of lib goes at the next close."""
        hop = Unit([("h", "code", [coded(SET, 2), named("main"), coded(SET, 1), at("g", 77), coded(JUMP, 2)]),
                    ("g", "data", [0])], {"hop": ("h", 0)})
        main = Unit([("c", "code", [coded(ASK, 0, 0, 0), coded(COPY, 1, 3), coded(ASK, 0, 0, 0)])], {"main": ("c", 0)})
        shelf = Shelf([Module("hop", hop), Module("main", main), Module("none", Unit([]))])
        process = Process(Shelf([shelf.module("hop"), shelf.module("main"), shelf.module("none"),
                                 Module("both", Unit([]), ["main", "hop"])]), "both", "hop")
        process.bring("main")
        process.bring("none")
        process.give([])
        process.close("both")
        self.assertEqual(process.space().loaded(), ["main", "hop", "none"])
        process.give([False])
        self.assertEqual(process.state()[1][1], ZERO)
        self.assertEqual(process.space().loaded(), ["main", "hop", "none"])
        process.close("none")
        self.assertEqual(process.space().loaded(), ["main"])

    def test_data_words_of_held_modules(self):
        """hop puts an address of its own into a word of main, and goes there with no other one left."""
        hop = Unit([("h", "code", [coded(SET, 2), named("cell"), coded(SET, 1), at("g", -9), coded(STORE, 1, 2), coded(SET, 1),
                                   0, coded(SET, 2), named("main"), coded(JUMP, 2)]), ("g", "data", [0])], {"hop": ("h", 0)})
        main = Unit([("c", "code", [coded(COPY, 2, 3), coded(ASK, 0, 0, 0), coded(SET, 4), at("d"), coded(STORE, 3, 4),
                                    coded(ASK, 0, 0, 0)]), ("d", "data", [0])], {"main": ("c", 0), "cell": ("d", 0)})
        shelf = Shelf([Module("hop", hop), Module("main", main), Module("none", Unit([])), Module("both", Unit([]), ["main", "hop"])])
        process = Process(shelf, "both", "hop")
        process.bring("main")
        process.give([])
        process.close("both")
        self.assertEqual(process.space().loaded(), ["main", "hop"])
        self.assertEqual(process.state()[2][("d", 0)], ("at", "g", -9))
        process.give([False])
        process.bring("none")
        process.close("none")
        self.assertEqual(process.space().loaded(), ["main"])

    def test_slots_of_modules_that_come_later(self):
        code = [coded(SET, 1), at("d"), coded(LOAD, 2, 1), coded(ASK, 0, 0, 0), coded(JUMP, 2)]
        main = Unit([("c", "code", code), ("d", "data", [named("hop")])], {"main": ("c", 0)})
        hop = Unit([("h", "code", [coded(SET, 1), at("g"), coded(LOAD, 3, 1), coded(TELL, 3), coded(ASK, 0, 0, 0)]),
                    ("g", "data", [named("main"), at("main", 3)]), ("main", "data", [0])], {"hop": ("h", 0)})
        shelf = Shelf([Module("main", main, [], [], ["hop"]), Module("hop", hop, [], [], ["main"])])
        process = Process(shelf, "main", "main")
        process.bring("hop")
        self.assertEqual(process.give([False]), [("ask", False), ("tell", at("c"))])
        self.assertEqual(process.space().bound(), {("main", "hop"): "hop", ("hop", "main"): "main"})
        # A piece that is called as a late name is no slot of it.
        self.assertEqual(process.state()[2][("g", 1)], ("at", "main", 3))

    def test_words_that_stay_and_words_that_come_anew(self):
        code = [coded(SET, 1), at("d"), coded(STORE, 1, 1), coded(ASK, 0, 0, 0), coded(0)]
        main = Unit([("c", "code", code), ("d", "data", [5])], {"main": ("c", 0)})
        data = Unit([("e", "data", [6]), ("h", "code", [coded(SET, 1), at("e"), coded(STORE, 1, 1), coded(SET, 1), 0,
                                                       coded(ASK, 0, 0, 0), coded(JUMP, 2)])],
                    {"else": ("e", 0), "hop": ("h", 0)})
        start = Unit([("s", "code", [coded(SET, 2), at("s", 4), coded(SET, 3), at("s", 4), coded(ASK, 0, 0, 0),
                                     coded(ASK, 0, 0, 0)]), ("t", "data", [named("hop")])], {"start": ("s", 0)})
        shelf = Shelf([Module("main", main), Module("data", data), Module("start", start, [], [], ["hop"])])
        process = Process(shelf, "data", "hop")
        process.bring("start")
        process.give([])
        self.assertEqual(process.state()[2][("e", 0)], ("at", "e", 0))
        process.close("data")
        self.assertEqual(process.state()[2][("e", 0)], ("at", "e", 0))
        process.bring("main")
        process.bring("data")
        self.assertEqual(process.state()[2][("e", 0)], ("at", "e", 0))
        other = Process(shelf, "main", "main")
        other.bring("data")
        other.close("data")
        other.bring("data")
        self.assertEqual(other.state()[2], {("d", 0): ("number", (5, ())), ("e", 0): ("number", (6, ()))})
        other.give([])
        other.bring("start")
        self.assertEqual(other.state()[2][("d", 0)], ("at", "d", 0))
        other.close("main")
        self.assertEqual(other.space().loaded(), ["main", "data", "start"])


class SecondWay(unittest.TestCase, Raising):
    def test_beside_a_process_followed_by_hand(self):
        rng = seeded(39)
        for _ in range(120):
            shelf = random_shelf(rng, rng.randint(2, 5))
            try:
                process = Process(shelf, "ma", "begin")
            except NotBound:
                continue
            other = NaiveProcess(shelf, "ma", "begin")
            for _ in range(12):
                self.one_deed(rng, process, other)
                self.assertEqual(process.state(), other.state())
                self.assertEqual(list(process.state()[2]), list(other.state()[2]))
                space = process.space()
                self.assertEqual((space.opened(), space.loaded()), (other.open, other.present))
                self.assertEqual(space.bound(), {pair: one and one[0] for pair, one in other.links.items()})
                self.check_what_is_held(process)

    def one_deed(self, rng, process, other):
        kind = rng.choice(["give", "give", "give", "bring", "close", "close", "undo"])
        name = rng.choice(process.space().loaded() + ["ma", "mb"])
        if kind == "give":
            answers = [rng.random() < 0.5 for _ in range(rng.randint(0, 3))]
            if other.over and answers:
                self.assert_raises_with(Ended, {}, process.give, answers)
            else:
                self.assertEqual(process.give(answers), other.give(answers))
        elif kind == "bring" and name not in other.open:
            ahead = rng.random() < 0.5
            if other.bring(name, ahead):
                self.assertIsNone(process.bring(name, ahead))
            else:
                with self.assertRaises(NotBound):
                    process.bring(name, ahead)
        elif kind == "close" and name in other.open:
            other.close(name)
            self.assertIsNone(process.close(name))
        elif kind == "undo" and process.events():
            before = (process.state(), process.space().bound(), process.events())
            process.undo()
            self.assertEqual(process.again(), len(before[2]))
            self.assertEqual((process.state(), process.space().bound(), process.events()), before)

    def check_what_is_held(self, process):
        pieces = [p for p, _, _ in loaded_unit(process.space()).pieces()]
        at_, registers, words = process.state()
        for value in list(registers) + list(words.values()) + [("at",) + at_]:
            self.assertTrue(value[0] == "number" or value[1] in pieces)
        loaded = process.space().loaded()
        self.assertTrue(all(target is None or target in loaded for target in process.space().bound().values()))


class Deeds(unittest.TestCase, Raising):
    def test_undo_and_again_over_all_kinds(self):
        process = Process(small_shelf(), "main", "main")

        def standing():
            space = process.space()
            return (process.state(), process.events(), space.opened(), space.loaded(), space.bound())

        rows = [standing()]
        for change in (lambda: process.bring("other", True), lambda: process.give([]), lambda: process.give([]),
                       lambda: process.close("other"), lambda: process.give([False]), lambda: process.close("main")):
            change()
            rows.append(standing())
        for row in reversed(rows[:-1]):
            self.assertEqual(process.undo(), len(row[1]))
            self.assertEqual(standing(), row)
        self.assert_raises_with(NoDeed, {}, process.undo)
        for row in rows[1:]:
            self.assertEqual(process.again(), len(row[1]))
            self.assertEqual(standing(), row)
        self.assert_raises_with(NoDeed, {}, process.again)
        process.undo()
        process.bring("lib")
        self.assert_raises_with(NoDeed, {}, process.again)

    def test_what_is_refused_changes_nothing(self):
        process = Process(small_shelf(), "main", "main")
        process.give([])
        process.bring("other")
        process.undo()
        before = (process.state(), process.events(), process.space().opened())
        for thing in any_objects():
            self.assert_raises_with(NoModule, {"name": thing}, process.bring, thing, None)
            self.assert_raises_with(IsOpen, {"name": "main"}, process.bring, "main", thing)
            if not isinstance(thing, bool):
                self.assert_raises_with(BadAhead, {"ahead": thing}, process.bring, "lib", thing)
                self.assert_raises_with(BadAnswer, {"index": 1}, process.give, [False, thing, None])
            if thing != "main":
                self.assert_raises_with(NotOpen, {"name": thing}, process.close, thing)
            if not isinstance(thing, (list, tuple)):
                self.assert_raises_with(BadAnswer, {"index": 0}, process.give, thing)
        self.assert_raises_with(NotOpen, {"name": "lib"}, process.close, "lib")
        self.assertEqual((process.state(), process.events(), process.space().opened()), before)
        process.again()
        self.assertEqual(process.space().opened(), ["main", "other"])
        late = shelf_of([coded(0)], [], [])
        with self.assertRaises(NotBound):
            Process(Shelf([late.module("main"), Module("far", late.module("lib").content)]), "main", "main").bring("far")

    def test_answers_behind_the_end(self):
        process = Process(small_shelf(), "main", "main")
        self.assertEqual(process.give([False, False, None, 7])[-1], ("stop",))
        self.assert_raises_with(BadAnswer, {"index": 0}, process.give, None)
        for thing in any_objects():
            self.assert_raises_with(Ended, {}, process.give, [thing])

    def test_errors_at_first(self):
        shelf = small_shelf()
        for thing in any_objects() + ["maybe"]:
            self.assert_raises_with(NoName, {"name": thing}, Process, shelf, "main", thing)
            if thing != "maybe":
                self.assert_raises_with(NoModule, {"name": thing}, Process, shelf, thing, None)
        self.assert_raises_with(NotBound, {"name": "other", "n": "table"}, Process, shelf, "other", None)
        self.assert_raises_with(BadStart, {"address": ("slots", 0)}, Process, shelf, "main", "table")

    def test_what_is_returned_stands_alone(self):
        process = Process(small_shelf(), "main", "main")
        process.give([]).clear()
        process.events().clear()
        process.state()[2].clear()
        space = process.space()
        self.assertFalse(space.undo())
        space.bring("other")
        space.close("main")
        self.assertEqual(process.events(), [("tell", at("lib", 0))])
        self.assertEqual(len(process.state()[2]), 5)
        self.assertEqual(process.space().opened(), ["main"])
        self.assertIsInstance(space, Space)
