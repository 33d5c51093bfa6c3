"""[93], [94], [95], [97], [98]: houses."""

import copy
import unittest

from loadanywhere.assembling import assembled
from loadanywhere.errors import (
    BadAnswer, BadDeed, BadKind, BadLed, BadLine, BadName, BadRow, BadStart, BadText, BadThings, Ended, HeldBack, Lost,
    NoDeed, NoName, NoOne, NoPlace, NoPlacing, NoPoint, Over, SamePiece, Seen, Twice, UnlikeData, Untold,
)
from loadanywhere.houses import House
from loadanywhere.lineup import linked
from loadanywhere.units import image_of
from tests.helpers import Raising, any_objects, as_lists, as_tuples, is_name_at_sight
from tests.housing import BEGINNING, MAIN, NaiveHouse, lines, outcome, random_deed
from tests.naive import seeded

SUB = lines("code sub", "work:", "add r1 r1", "jump r7", "told work")
SLOW = lines("code sub", "work:", "copy r2 r1", "add r1 r2", "jump r7", "told work")
OUT = lines("data cell", "out:", "word 9 work", "told out")
PLACES = {"main": 0, "tab": 100, "sub": 50, "cell": -20}


def begun():
    """A house with a program that can be run."""
    house = House()
    house.put_source("a", MAIN)
    house.put_source("b", SUB)
    house.put_source("c", OUT)
    house.put_line("l", [("member", ("a", [])), ("library", [("b", []), ("c", [])])])
    house.put_image("i", "l", "start")
    return house


def all_led(*some):
    """Each of so many words of a piece to the one at the same address: pairs (p, many)."""
    return {(p, k): (p, k) for p, many in some for k in range(many)}


LED = all_led(("main", 8), ("sub", 2))


class Deeds(unittest.TestCase, Raising):
    def test_all_of_them(self):
        house = begun()
        self.assertIsNone(house.start("r", "i", dict(PLACES)))
        self.assertEqual(house.run("r"), [])
        self.assertEqual(house.give("r", [4]), [("take", 4), ("tell", 8)])
        self.assertEqual(house.give(answers=(True, 5), n="r"), [("ask", True), ("take", 5), ("tell", 10)])
        self.assertEqual(house.run("r"), [("take", 4), ("tell", 8), ("ask", True), ("take", 5), ("tell", 10)])
        self.assertEqual(house.placed("r"), PLACES)
        self.assertEqual(list(house.placed("r")), ["main", "tab", "sub", "cell"])
        self.assertIsNone(house.drop(n="a", kind="source"))
        self.assertIsNone(house.put_source(text="x", n="b"))
        self.assertIsNone(house.put_line(things=[], n="m"))
        self.assertIsNone(house.put_image(root="x", line="m", n="j"))
        self.assertEqual(house.count(), 12)

    def test_what_stood_is_put_out(self):
        house = begun()
        house.start("r", "i", PLACES)
        house.give("r", [4])
        house.start("r", "i", {**PLACES, "main": 1000})
        self.assertEqual((house.run("r"), house.placed("r")["main"]), ([], 1000))
        house.put_source("b", SLOW)
        self.assertEqual(house.unit("b"), assembled(SLOW))
        # Each kind has names of its own.
        house.put_source("i", "code x")
        house.put_line("i", [])
        house.put_image("r", "l", "start")
        self.assertEqual(house.run("r"), [])
        self.assertEqual(house.unit("i").pieces(), [("x", "code", ())])

    def test_bad_names(self):
        house = begun()
        for thing in any_objects() + ["nametoolg", "a b", "A"]:
            if is_name_at_sight(thing):
                continue
            self.assert_raises_with(BadName, {"n": thing}, house.put_source, thing, None)
            self.assert_raises_with(BadName, {"n": thing}, house.put_line, thing, None)
            self.assert_raises_with(BadName, {"n": thing}, house.put_image, thing, None, None)
            self.assert_raises_with(BadName, {"n": thing}, house.put_image, "x", thing, None)
            self.assert_raises_with(BadName, {"n": thing}, house.put_image, "x", "nothere", thing)
            self.assert_raises_with(BadName, {"n": thing}, house.start, thing, None, None)
            self.assert_raises_with(BadName, {"n": thing}, house.start, "x", thing, None)
        self.assertEqual(house.count(), 5)

    def test_bad_texts_and_things(self):
        house = begun()
        member = ("member", ("a", []))
        for thing in any_objects():
            if not isinstance(thing, str):
                self.assert_raises_with(BadText, {"thing": thing}, house.put_source, "a", thing)
            if thing.__class__ not in (list, tuple):
                self.assert_raises_with(BadThings, {"index": 0}, house.put_line, "x", thing)
            self.assert_raises_with(BadThings, {"index": 1}, house.put_line, "x", [member, thing, None])
            self.assert_raises_with(BadThings, {"index": 0}, house.put_line, "x", [("member", ("a", thing))]
                                    if thing not in ([], ()) else [None])
            if not is_name_at_sight(thing):
                self.assert_raises_with(BadThings, {"index": 0}, house.put_line, "x", [("member", ("a", ["b", thing]))])
                self.assert_raises_with(BadThings, {"index": 0}, house.put_line, "x", [("library", [(thing, [])])])
        for thing in (("library", [("a", []), ("a", ["x"])]), ("group", [("a", [])]), ("group", [[("a", []), ("a", [])]]),
                      ("members", ("a", [])), ("member", ("a",)), ("member", ("a", [], [])), ("member", "a"),
                      ("member", ("a", assembled(SUB), []))):
            self.assert_raises_with(BadThings, {"index": 0}, house.put_line, "x", [thing])
        house.put_line("x", [["member", ["nothere", ("b", "b", "c")]], ("library", ()), ("group", [(), [["a", ()]]])])

    def test_no_one(self):
        house = begun()
        house.start("r", "i", PLACES)
        for thing in any_objects() + ["nothere", "r"]:
            for kind, call in (("source", house.unit), ("line", house.linked), ("image", house.image)):
                if not (kind == "source" and is_name_at_sight(thing)):
                    self.assert_raises_with(NoOne, {"kind": kind, "n": thing}, call, thing)
                    self.assert_raises_with(NoOne, {"kind": kind, "n": thing}, house.drop, kind, thing)
                    self.assert_raises_with(NoOne, {"kind": kind, "n": thing}, house.needs, kind, thing)
            if thing == "r":
                continue
            for call in (house.run, house.placed, house.is_old, lambda n: house.give(n, None),
                         lambda n: house.renew(n, None), lambda n: house.drop("run", n), lambda n: house.needs("run", n)):
                self.assert_raises_with(NoOne, {"kind": "run", "n": thing}, call, thing)
            if thing.__class__ is not str or thing not in ("source", "line", "image", "run"):
                self.assert_raises_with(BadKind, {"kind": thing}, house.drop, thing, None)
                self.assert_raises_with(BadKind, {"kind": thing}, house.needs, thing, None)
        self.assert_raises_with(NoOne, {"kind": "line", "n": "nothere"}, house.put_image, "x", "nothere", "start")
        self.assert_raises_with(NoOne, {"kind": "image", "n": "nothere"}, house.start, "x", "nothere", None)
        house.drop("image", "i")
        self.assert_raises_with(NoOne, {"kind": "image", "n": "i"}, house.is_old, "r")
        self.assert_raises_with(NoOne, {"kind": "image", "n": "i"}, house.renew, "r", None)
        house.undo()
        house.drop("line", "l")
        for call in (lambda: house.start("x", "i", None), lambda: house.image("i"), lambda: house.is_old("r")):
            self.assert_raises_with(NoOne, {"kind": "line", "n": "l"}, call)
        self.assertEqual(house.run("r"), [])

    def test_start(self):
        house = begun()
        for thing in any_objects():
            if thing not in ({}, {"a": 1}):
                self.assert_raises_with(NoPlacing, {}, house.start, "r", "i", thing)
            if thing.__class__ is not int:
                self.assert_raises_with(NoPlacing, {}, house.start, "r", "i", {**PLACES, "besides": thing})
        for key in ("A", 5, ("a", 0), None):
            self.assert_raises_with(NoPlacing, {}, house.start, "r", "i", {**PLACES, key: 5})
        self.assert_raises_with(NoPlace, {"p": "main"}, house.start, "r", "i", {})
        self.assert_raises_with(NoPlace, {"p": "cell"}, house.start, "r", "i", {"main": 0, "tab": 100, "sub": 50})
        self.assert_raises_with(Over, {"p": "main", "q": "tab"}, house.start, "r", "i", {**PLACES, "tab": 7})
        house.start("r", "i", {**PLACES, "besides": 1})
        self.assertEqual(house.placed("r"), PLACES)
        # What making its image raises goes ahead of that.
        house.put_image("j", "l", "work")
        house.put_source("c", "data cell\nword 5")
        self.assert_raises_with(Untold, {"n": "out"}, house.start, "x", "i", None)

    def test_give(self):
        house = begun()
        house.start("r", "i", PLACES)
        for thing in any_objects():
            if thing.__class__ not in (list, tuple):
                self.assert_raises_with(BadAnswer, {"index": 0}, house.give, "r", thing)
            if thing.__class__ is not int:
                self.assert_raises_with(BadAnswer, {"index": 2}, house.give, "r", [5, True, thing])
        self.assertEqual(house.run("r"), [])
        self.assertEqual(house.give("r", [5, False, 7]), [("take", 5), ("tell", 10), ("ask", False), ("stop",)])
        self.assert_raises_with(Ended, {}, house.give, "r", [1])
        self.assertEqual(house.give("r", []), [])
        self.assertEqual(house.count(), 8)


class Makings(unittest.TestCase, Raising):
    def test_what_is_made(self):
        house = begun()
        self.assertEqual(house.unit(n="b"), assembled(SUB))
        line = [("member", ("a", assembled(MAIN), [])), ("library", [("b", assembled(SUB), []), ("c", assembled(OUT), [])])]
        self.assertEqual(house.linked(n="l"), linked(line))
        self.assertEqual(list(house.linked("l").told()), ["out", "start", "work"])
        self.assertEqual(house.image(n="i"), image_of(linked(line), "start"))
        # Of what comes by a line all that is reached from the root.
        house.put_source("c", OUT + "\ncode dead\nstop")
        self.assertEqual([p for p, _, _ in house.linked("l").pieces()], ["main", "tab", "sub", "cell", "dead"])
        self.assertEqual([p for p, _, _ in house.image("i").pieces()], ["main", "tab", "sub", "cell"])
        house.put_image("j", "l", "work")
        self.assertEqual(house.image("j").pieces(), assembled(SUB).pieces())
        self.assertEqual(house.image("j").first, ("sub", 0))

    def test_errors(self):
        house = begun()
        house.put_image("j", "l", "nothere")
        self.assert_raises_with(NoName, {"name": "nothere"}, house.image, "j")
        house.put_image("j", "l", "out")
        self.assert_raises_with(BadStart, {"address": ("cell", 0)}, house.image, "j")
        house.put_source("b", "code")
        for call in (lambda: house.unit("b"), lambda: house.linked("l"), lambda: house.image("i"),
                     lambda: house.start("r", "i", None)):
            self.assert_raises_with(BadRow, {"number": 1}, call)
        house.drop("source", "a")
        self.assert_raises_with(NoOne, {"kind": "source", "n": "a"}, house.image, "i")
        for things, error, told in (
                ([("member", ("c", []))], Untold, {"n": "work"}), ([("member", ("c", ["nothere"]))], BadLine, {"index": 0}),
                ([("member", ("c", [])), ("member", ("c", []))], Twice, {"n": "out", "seat": (0, "c"), "other": (1, "c")}),
                ([("member", ("c", ["out"])), ("member", ("c", ["out"]))], SamePiece, {"p": "cell"})):
            house.put_line("x", things)
            self.assert_raises_with(error, told, house.linked, "x")

    def test_made(self):
        house = begun()
        self.assertEqual(house.made(), [])
        house.image("i")
        self.assertEqual(house.made(), [("source", "a"), ("source", "b"), ("source", "c"), ("line", "l"), ("image", "i")])
        house.image("i")
        house.linked("l")
        house.unit("a")
        self.assertEqual(house.made(), [])
        # Only what is otherwise is made anew; an equal unit makes no line anew.
        house.put_source("b", SUB + "\n")
        house.image("i")
        self.assertEqual(house.made(), [("source", "b")])
        house.put_source("b", SLOW)
        house.linked("l")
        self.assertEqual(house.made(), [("source", "b"), ("line", "l")])
        # A line of which more comes than is reached: the image is another one's only if its linked unit is.
        house.put_image("j", "l", "start")
        house.image("j")
        house.image("i")
        self.assertEqual(house.made(), [("image", "j"), ("image", "i")])
        # What it was between does not count, nor that it was dropped.
        house.put_source("b", SUB)
        house.drop("line", "l")
        house.put_line("l", [("member", ("a", [])), ("library", [("b", []), ("c", [])])])
        house.put_source("b", SLOW)
        house.image("i")
        self.assertEqual(house.made(), [])
        house.put_line("l", [("member", ("a", [])), ("library", [("c", []), ("b", [])])])
        house.image("i")
        self.assertEqual(house.made(), [("line", "l"), ("image", "i")])

    def test_what_could_not_be_made(self):
        house = begun()
        house.put_source("b", "take r1")
        for _ in range(2):
            with self.assertRaises(BadRow):
                house.image("i")
        # The sources behind it were not asked for, the line and the image not made.
        self.assertEqual(house.made(), [("source", "a"), ("source", "b")])
        house.put_source("b", lines("code sub", "work:", "jump r7", "told work", "data cell"))
        for _ in range(2):
            with self.assertRaises(SamePiece):
                house.image("i")
        self.assertEqual(house.made(), [("source", "b"), ("source", "c"), ("line", "l")])
        house.put_source("b", SUB)
        house.put_image("i", "l", "out")
        for _ in range(2):
            with self.assertRaises(BadStart):
                house.image("i")
        self.assertEqual(house.made(), [("source", "b"), ("line", "l"), ("image", "i")])
        house.drop("source", "c")
        with self.assertRaises(NoOne):
            house.linked("l")
        house.put_source("c", OUT)
        house.linked("l")
        self.assertEqual(house.made(), [])

    def test_what_a_call_makes_that_raises(self):
        house = begun()
        with self.assertRaises(NoPlacing):
            house.start("r", "i", None)
        self.assertEqual(len(house.made()), 5)
        house.start("r", "i", PLACES)
        house.put_source("b", "stop")
        with self.assertRaises(BadRow):
            house.is_old("r")
        self.assertEqual(house.made(), [("source", "b")])

    def test_needs(self):
        house = begun()
        house.start("r", "i", PLACES)
        of_line = [("source", "a"), ("source", "b"), ("source", "c")]
        self.assertEqual(house.needs("source", "a"), [])
        self.assertEqual(house.needs(n="l", kind="line"), of_line)
        self.assertEqual(house.needs("image", "i"), of_line + [("line", "l")])
        self.assertEqual(house.needs("run", "r"), of_line + [("line", "l"), ("image", "i")])
        house.put_line("l", [("library", [("z", []), ("b", [])]), ("group", [[("y", [])], [("b", []), ("z", [])]])])
        self.assertEqual(house.needs("line", "l"), [("source", "b"), ("source", "y"), ("source", "z")])
        house.drop("line", "l")
        self.assertEqual(house.needs("run", "r"), [("line", "l"), ("image", "i")])
        house.drop("image", "i")
        self.assertEqual(house.needs("run", "r"), [("image", "i")])
        house.put_line("m", [])
        self.assertEqual(house.needs("line", "m"), [])


class Runs(unittest.TestCase, Raising):
    def test_old_and_renewed(self):
        house = begun()
        house.start("r", "i", PLACES)
        self.assertIs(house.is_old("r"), False)
        house.give("r", [4])
        house.put_source("b", SLOW)
        self.assertIs(house.is_old("r"), True)
        house.put_source("b", SUB)
        self.assertIs(house.is_old(n="r"), False)
        house.put_source("b", SLOW)
        self.assertIsNone(house.renew(led=as_lists(LED), n="r"))
        self.assertIs(house.is_old("r"), False)
        # The pieces that go among it: the code pieces of the new one come behind each other by thousands.
        self.assertEqual(house.placed("r"), {"main": 1000000, "tab": 100, "sub": 1001000, "cell": -20})
        self.assertEqual(list(house.placed("r")), ["main", "tab", "sub", "cell"])
        self.assertEqual(house.give("r", [True, 6]), [("ask", True), ("take", 6), ("tell", 12)])
        # Those that go are beside what comes, too.
        house.put_source("b", SUB)
        house.renew("r", all_led(("main", 8), ("sub", 2)))
        self.assertEqual(house.placed("r"), {"main": 1002000, "tab": 100, "sub": 1003000, "cell": -20})
        house.put_source("b", SLOW)
        house.renew("r", LED)
        self.assertEqual(house.placed("r"), {"main": 1000000, "tab": 100, "sub": 1001000, "cell": -20})
        self.assertEqual(house.count(), 16)

    def test_first_free_places(self):
        house = begun()
        house.start("r", "i", {"main": 1001999, "tab": 1000999, "sub": 1004001, "cell": 1004999})
        # A piece without words stands beside all; a long one goes over several thousands.
        house.put_source("a", MAIN.replace("stop", "stop\nroom 1000\nroom 900\nword none one") + "\ncode none\ncode one\nstop")
        house.renew("r", LED)
        self.assertEqual(house.placed("r"), {"main": 1006000, "tab": 1000999, "none": 1000000, "one": 1000000,
                                             "sub": 1003000, "cell": 1004999})

    def test_it_goes_on_to_where_it_waits(self):
        house = begun()
        house.put_source("a", MAIN.replace("take r1", "tell r5\ntake r1"))
        house.start("r", "i", PLACES)
        house.renew("r", all_led(("main", 9), ("sub", 2)))
        self.assertEqual(house.run("r"), [("tell", 100)])
        self.assertEqual(house.give("r", [3]), [("take", 3), ("tell", 6)])

    def test_errors_in_order(self):
        house = begun()
        house.start("r", "i", PLACES)
        house.put_source("c", "code cell\nout:\nstop\ntold out")
        self.assert_raises_with(UnlikeData, {"p": "cell"}, house.renew, "r", None)
        house.undo()
        for thing in any_objects():
            if thing.__class__ is not dict:
                self.assert_raises_with(BadLed, {"address": None}, house.renew, "r", thing)
        self.assert_raises_with(BadLed, {"address": ("tab", 0)}, house.renew, "r", {("tab", 0): ("main", 0)})
        self.assert_raises_with(Seen, {"why": ("held", (), "at")}, house.renew, "r", {})
        house.give("r", [4, False])
        self.assert_raises_with(BadLed, {"address": None}, house.renew, "r", None)
        self.assert_raises_with(Ended, {}, house.renew, "r", LED)
        house.undo()
        before = house.count()
        house.put_source("a", MAIN.replace("tell r1", "tell r5"))
        self.assert_raises_with(Seen, {"why": ("parts", (), 1)}, house.renew, "r", LED)
        self.assertEqual(house.count(), before + 1)
        house.put_source("a", MAIN.replace("stop", "jump r1"))
        self.assert_raises_with(Seen, {"why": ("lost", (), (False,))}, house.renew, "r", LED)
        house.put_source("a", "code")
        self.assert_raises_with(BadRow, {"number": 1}, house.renew, "r", None)

    def test_lost_and_astray(self):
        house = House()
        house.put_source("a", lines("code main", "start:", "take r1", "ask start", "jump r1", "told start"))
        house.put_line("l", [("member", ("a", []))])
        house.put_image("i", "l", "start")
        house.start("r", "i", {"main": 40})
        led = all_led(("main", 3))
        self.assert_raises_with(Lost, {"side": 1, "answers": (False,)}, house.renew, "r", led)
        house.give("r", [40, False])
        self.assertEqual(house.run("r"), [("take", 40), ("ask", False)])
        self.assert_raises_with(HeldBack, {"where": "at"}, house.renew, "r", led)
        self.assert_raises_with(BadLed, {"address": ("main", 3)}, house.renew, "r", all_led(("main", 4)))

    def test_renewed_before(self):
        # Behind a first renewing the run stands where free runs of its image from the start never come.
        house = House()
        one = lines("code main", "start:", "la:", "take r1", "goany la", "told start")
        house.put_source("a", one)
        house.put_line("l", [("member", ("a", []))])
        house.put_image("i", "l", "start")
        house.start("r", "i", {"main": 0})
        house.put_source("a", lines("code main", "start:", "take r2", "goany start", "lb:", "take r1", "goany lb", "told start"))
        house.renew("r", {("main", 0): ("main", 2)})
        self.assertEqual(house.give("r", [5]), [("take", 5)])
        self.assert_raises_with(NoPoint, {"point": ("main", 2)}, house.renew, "r", all_led(("main", 4)))
        self.assertEqual(house.give("r", [6]), [("take", 6)])

    def test_held_back_by_what_it_held_before(self):
        # Judged by free runs from the start of its present image nothing is against it; yet it holds what is not led.
        house = House()
        house.put_source("a", lines("code main", "start:", "set r3 far", "la:", "take r1", "goany la", "far:", "stop", "told start"))
        house.put_line("l", [("member", ("a", []))])
        house.put_image("i", "l", "start")
        house.start("r", "i", {"main": 0})
        house.put_source("a", lines("code main", "start:", "la:", "take r1", "goany la", "far:", "stop", "told start"))
        house.renew("r", {("main", 2): ("main", 0), ("main", 4): ("main", 2)})
        self.assert_raises_with(HeldBack, {"where": ("register", 3)}, house.renew, "r", {("main", 0): ("main", 0)})
        house.renew("r", {("main", 0): ("main", 0), ("main", 2): ("main", 1)})
        self.assertEqual(house.give("r", [7]), [("take", 7)])


class Trials(unittest.TestCase, Raising):
    def test_tried(self):
        house = begun()
        house.start("r", "i", PLACES)
        house.made()
        seen = []

        def work(inner):
            seen.append(inner is house)
            return (inner.give("r", [1]), inner.count(), inner.unit("b"), inner.made(), inner.undo(), inner.undo())
        deeds = [["put_source", "b", SLOW], ("give", "r", [3, True]), ["drop", "line", "l"]]
        found = house.tried(deeds, work)
        self.assertEqual(found, ([("take", 1), ("tell", 2)], 10, assembled(SLOW), [("source", "b")], "give", "drop"))
        self.assertEqual(seen, [True])
        self.assertEqual((house.count(), house.run("r"), house.made(), house.unit("b")), (6, [], [], assembled(SUB)))
        self.assertEqual(house.made(), [])
        self.assertEqual(house.linked("l").told(), {"out": ("cell", 0), "start": ("main", 0), "work": ("sub", 0)})
        self.assert_raises_with(NoDeed, {}, house.again)
        self.assertIsNone(house.tried(work=lambda inner: None, deeds=()))

    def test_all_deeds(self):
        house = House()
        deeds = [["put_source", "a", MAIN], ["put_source", "b", SUB], ["put_source", "c", OUT],
                 ["put_line", "l", [["member", ["a", []]], ["library", [["b", []], ["c", []]]]]],
                 ["put_image", "i", "l", "start"], ["start", "r", "i", PLACES], ["give", "r", [4]],
                 ["put_source", "b", SLOW], ["renew", "r", LED], ["drop", "image", "i"]]
        self.assertEqual(house.tried(deeds, lambda inner: (inner.count(), inner.placed("r")["main"], inner.run("r"))),
                         (10, 1000000, [("take", 4), ("tell", 8)]))
        self.assertEqual((house.count(), house.made()), (0, []))

    def test_errors_go_on_unchanged(self):
        house = begun()
        house.image("i")
        for error in (KeyError("x"), ValueError("y"), Untold("z"), KeyboardInterrupt(), SystemExit()):
            def work(inner, error=error):
                inner.put_source("b", "bent")
                inner.made()
                raise error
            with self.assertRaises(BaseException) as caught:
                house.tried([["drop", "source", "c"]], work)
            self.assertIs(caught.exception, error)
            self.assertEqual(house.count(), 5)
        for deed, error, told in ((["drop", "nothing", "c"], BadKind, {"kind": "nothing"}),
                                  (["give", "r", []], NoOne, {"kind": "run", "n": "r"}),
                                  (["put_source", 5, 5], BadName, {"n": 5}), (["renew", "r", 1], NoOne, {"kind": "run"})):
            self.assert_raises_with(error, told, house.tried, [["put_source", "b", "bent"], deed], lambda inner: None)
        self.assertEqual(house.unit("b"), assembled(SUB))
        self.assertEqual(len(house.made()), 5)

    def test_trials_within_trials(self):
        house = begun()

        def outer(inner):
            found = inner.tried([["drop", "source", "b"]], lambda deeper: (deeper.count(), deeper.undo()))
            return found + (inner.count(), inner.undo())
        self.assertEqual(house.tried([["drop", "source", "a"]], outer), (7, "drop", 6, "drop"))
        self.assertEqual(house.count(), 5)

    def test_undone_deeds_stay_undone(self):
        house = begun()
        house.undo()
        house.tried([["drop", "source", "a"]], lambda inner: None)
        self.assertEqual(house.again(), "put_image")

    def test_bad_deeds(self):
        house = begun()

        def never(inner):
            raise AssertionError
        right = ["drop", "source", "a"]
        for thing in any_objects():
            if thing.__class__ not in (list, tuple):
                self.assert_raises_with(BadDeed, {"index": 0}, house.tried, thing, never)
            self.assert_raises_with(BadDeed, {"index": 1}, house.tried, [right, thing, None], never)
            self.assert_raises_with(BadDeed, {"index": 0}, house.tried, [[thing, "source", "a"]], never)
        for thing in (["drop", "source"], ["drop", "source", "a", 1], ["unit", "a"], ["undo"], ["made"], ["tried", [], never],
                      ["put_image", "x", "l"], ["give", "r"], "drop", ["__init__"], ["all_kept", "run"]):
            self.assert_raises_with(BadDeed, {"index": 0}, house.tried, [thing], never)
        self.assertEqual(house.count(), 5)


class Undone(unittest.TestCase, Raising):
    def test_undo_and_again(self):
        house = begun()
        house.start("r", "i", PLACES)
        house.give("r", [4])
        house.put_source("b", SLOW)
        house.renew("r", LED)
        house.drop("source", "c")
        methods = ["put_source"] * 3 + ["put_line", "put_image", "start", "give", "put_source", "renew", "drop"]
        self.assertEqual(house.count(), 10)
        self.assertEqual(house.undo(), "drop")
        self.assertEqual(house.unit("c"), assembled(OUT))
        self.assertEqual(house.undo(), "renew")
        self.assertEqual(house.placed("r"), PLACES)
        self.assertEqual(house.undo(), "put_source")
        self.assertIs(house.is_old("r"), False)
        self.assertEqual(house.undo(), "give")
        self.assertEqual(house.run("r"), [])
        self.assertEqual(house.again(), "give")
        self.assertEqual(house.run("r"), [("take", 4), ("tell", 8)])
        for _ in range(7):
            house.undo()
        self.assert_raises_with(NoDeed, {}, house.undo)
        self.assertEqual(house.count(), 0)
        self.assertEqual([house.again() for _ in range(10)], methods)
        self.assert_raises_with(NoDeed, {}, house.again)
        self.assertEqual(house.placed("r")["main"], 1000000)
        house.undo()
        house.put_source("z", "")
        self.assert_raises_with(NoDeed, {}, house.again)
        # What raises is no deed; nor is what is only asked.
        house.undo()
        with self.assertRaises(BadName):
            house.put_source(5, "")
        house.unit("a")
        house.made()
        self.assertEqual(house.again(), "put_source")

    def test_nothing_is_made_by_it(self):
        house = begun()
        house.image("i")
        house.put_source("b", SLOW)
        house.image("i")
        house.made()
        house.undo()
        self.assertEqual(house.made(), [])
        house.image("i")
        self.assertEqual(house.made(), [("source", "b"), ("line", "l"), ("image", "i")])
        house.again()
        house.undo()
        house.image("i")
        self.assertEqual(house.made(), [])

    def test_changed_behind(self):
        house = begun()
        things = [["member", ["a", ["start"]]], ["library", [["b", []]]]]
        house.put_line("m", things)
        things[0][1][1].append("nothere")
        things.append(5)
        self.assertEqual(house.needs("line", "m"), [("source", "a"), ("source", "b")])
        with self.assertRaises(Untold):
            house.linked("m")
        places, answers, led = dict(PLACES), [4], dict(LED)
        house.start("r", "i", places)
        house.give("r", answers)
        house.renew("r", led)
        places.clear(), answers.clear(), led.clear()
        held = copy.deepcopy((house.run("r"), house.placed("r"), house.needs("run", "r"), house.made()))
        for thing in (house.run("r"), house.placed("r"), house.needs("run", "r"), house.made()):
            thing.clear()
        self.assertEqual((house.run("r"), house.placed("r"), house.needs("run", "r")), held[:3])
        house.undo()
        house.undo()
        self.assertEqual((house.run("r"), house.placed("r")), ([], PLACES))
        self.assertEqual(as_tuples(things[0][1][1]), ("start", "nothere"))


def told(house):
    """All that is told of a house but made."""
    found = [house.count()]
    for kind, names in (("source", "abcd"), ("line", ["la", "lb"]), ("image", ["ia", "ib"]), ("run", ["ra", "rb"])):
        for n in names:
            found.append(outcome(house.needs, kind, n))
            if kind == "run":
                found += [outcome(house.run, n), outcome(house.placed, n)]
    return found


def worked(house):
    return [told(house), house.made(), outcome(house.undo), outcome(house.image, "ia"), house.tried([], told)]


class ByChance(unittest.TestCase):
    def test_beside_the_other_way(self):
        rng = seeded(460)
        seen = {}
        for _ in range(45):
            house, naive = House(), NaiveHouse()
            for name, *some in BEGINNING:
                getattr(house, name)(*some)
                getattr(naive, name)(*some)
            for _ in range(30):
                call = self.call(rng)
                found, right = outcome(call, house), outcome(call, naive)
                self.assertEqual(found, right)
                self.assertEqual(told(house), told(naive))
                seen[found[0]] = seen.get(found[0], 0) + 1
        for error in ("told", "NoOne", "Seen", "Over", "BadLed", "Ended", "NoName", "Untold", "Twice", "UnlikeData"):
            self.assertGreater(seen.get(error, 0), 0, error)

    def call(self, rng):
        chance = rng.random()
        if chance < 0.65:
            name, *some = random_deed(rng)
            return lambda house: getattr(house, name)(*some)
        if chance < 0.8:
            method, names = rng.choice([("unit", "abcd"), ("linked", ["la", "lb"]), ("image", ["ia", "ib"]),
                                        ("is_old", ["ra", "rb"])])
            n = rng.choice(names)
            return lambda house: getattr(house, method)(n)
        if chance < 0.95:
            method = rng.choice(["undo", "again", "made", "undo"])
            return lambda house: getattr(house, method)()
        deeds = [random_deed(rng) for _ in range(2)]
        return lambda house: house.tried(deeds, worked)

    def test_beside_a_new_house(self):
        rng = seeded(461)
        for _ in range(30):
            house = House()
            for name, *some in list(BEGINNING) + [random_deed(rng) for _ in range(12)]:
                outcome(getattr(house, name), *some)
                if rng.random() < 0.3:
                    outcome(house.image, rng.choice(["ia", "ib"]))
            for _ in range(rng.randint(0, 3)):
                outcome(house.undo)
            newer = House()
            for kind, put in (("source", newer.put_source), ("line", newer.put_line)):
                for n, thing in house.all_kept(kind).items():
                    put(n, thing)
            for n, (line, root) in house.all_kept("image").items():
                if line in house.all_kept("line"):
                    newer.put_image(n, line, root)
                else:
                    newer.put_line(line, [])
                    newer.put_image(n, line, root)
                    newer.drop("line", line)
            for n in "abcd":
                self.assertEqual(outcome(house.unit, n), outcome(newer.unit, n))
            for n in ("la", "lb"):
                self.assertEqual(outcome(house.linked, n), outcome(newer.linked, n))
                self.assertEqual(outcome(house.needs, "line", n), outcome(newer.needs, "line", n))
            for n in ("ia", "ib"):
                self.assertEqual(outcome(house.image, n), outcome(newer.image, n))
                self.assertEqual(outcome(house.needs, "image", n), outcome(newer.needs, "image", n))


if __name__ == "__main__":
    unittest.main()
