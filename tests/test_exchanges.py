"""[89], [90]: where an image can be exchanged unseen, and what is against it."""

import itertools
import unittest

from loadanywhere.assembling import assembled
from loadanywhere.errors import BadLed, Lost, NoPoint, UnlikeData
from loadanywhere.exchanges import Exchange
from loadanywhere.images import Image
from loadanywhere.movetables import points
from loadanywhere.units import image_of
from loadanywhere.words import coded
from tests.helpers import Raising, any_objects, as_lists, has_lists_within
from tests.naive import seeded
from tests.swaps import (
    exchanged, first_loss, least_parting_by, led_by_chance, other_program, random_program, stand_of, waits_by, where_held,
)


def lines(*rows):
    return "\n".join(rows)


def image(*rows):
    return image_of(assembled(lines("code main", "start:", *rows, "told start")), "start")


def all_led(one, other):
    """Each word of code to the word at the same address, as far as it is there."""
    there = [(p, k) for p, kind, words in other.pieces() if kind == "code" for k in range(len(words))]
    return {(p, k): (p, k) for p, kind, words in one.pieces() if kind == "code" for k in range(len(words))
            if (p, k) in there}


SUMMING = image("la:", "take r1", "add r2 r1", "tell r2", "ask la", "goany la")
WITH_DATA = image("set r5 tab", "set r4 lb", "la:", "take r1", "store r4 r5 1", "lb:", "ask la", "tell r1", "goany la",
                  "data tab", "word 0 0", "code sub", "jump r7")


class Made(unittest.TestCase, Raising):
    def test_attributes(self):
        led = {("main", 3): ["main", 0], ("main", 0): ("main", 3)}
        exchange = Exchange(led=led, other=SUMMING, one=SUMMING)
        self.assertIs(exchange.one, SUMMING)
        self.assertIs(exchange.other, SUMMING)
        self.assertEqual(list(exchange.led.items()), [(("main", 3), ("main", 0)), (("main", 0), ("main", 3))])
        led[("main", 1)] = 5
        self.assertEqual(len(exchange.led), 2)
        exchange = Exchange(SUMMING, SUMMING, all_led(SUMMING, SUMMING))
        exchange.led.clear()
        self.assertEqual(exchange.unseen(), points(SUMMING))

    def test_unlike_data(self):
        def with_data(*pieces):
            return Image([("c", "code", [0])] + [(p, "data", [0] * many) for p, many in pieces], ("c", 0))
        one = with_data(("d", 2), ("e", 0), ("f", 1))
        for other, p in ((with_data(), "d"), (with_data(("d", 2)), "e"), (with_data(("d", 3), ("e", 0), ("f", 1)), "d"),
                         (with_data(("e", 0), ("d", 2), ("f", 1)), "d"), (with_data(("d", 2), ("e", 0), ("g", 1)), "f"),
                         (with_data(("d", 2), ("e", 0), ("f", 1), ("g", 1), ("h", 1)), "g"),
                         (with_data(("d", 2), ("f", 1), ("e", 0)), "e"), (with_data(("d", 2), ("e", 1), ("f", 1)), "e")):
            self.assert_raises_with(UnlikeData, {"p": p}, Exchange, one, other, None)
        self.assert_raises_with(UnlikeData, {"p": "d"}, Exchange, with_data(), with_data(("d", 2)), None)
        other = Image([("d", "data", [7, 7]), ("x", "code", [0]), ("e", "data", []), ("y", "code", []),
                       ("f", "data", [1])], ("x", 0))
        self.assertEqual(Exchange(one, other, {("c", 0): ("x", 0)}).led, {("c", 0): ("x", 0)})

    def test_bad_led(self):
        for thing in any_objects():
            if thing.__class__ is not dict:
                self.assert_raises_with(BadLed, {"address": None}, Exchange, SUMMING, SUMMING, thing)
            self.assert_raises_with(BadLed, {"address": ("main", 1)}, Exchange, SUMMING, SUMMING,
                                    {("main", 0): ("main", 1), ("main", 1): thing, 5: 5})
        for key in (("main", 5), ("main", -1), ("mai", 0), "main", 5, None, ("main",), ("main", 0, 0), (("main", 0),), True,
                    ("main", True)):
            self.assert_raises_with(BadLed, {"address": key}, Exchange, SUMMING, SUMMING,
                                    {("main", 0): ("main", 1), key: ("main", 1), ("main", 2): 5})
        # Data pieces are led nowhere; worths are addresses of the other image.
        for key, worth in ((("tab", 0), ("main", 0)), (("main", 0), ("tab", 0)), (("main", 0), ("main", 99)),
                           (("main", 0), ("main", False))):
            self.assert_raises_with(BadLed, {"address": key}, Exchange, WITH_DATA, WITH_DATA, {key: worth})
        Exchange(WITH_DATA, WITH_DATA, {("sub", 0): ["main", 8]})


class WhyNot(unittest.TestCase, Raising):
    def test_unseen(self):
        newer = image("copy r0 r0", "la:", "take r1", "copy r3 r1", "add r2 r3", "tell r2", "askany la", "goany la")
        led = {("main", 0): ("main", 0), ("main", 3): ("main", 5)}
        exchange = Exchange(SUMMING, newer, led)
        self.assertEqual(exchange.unseen(), [("main", 0), ("main", 3)])
        self.assertIsNone(exchange.why_not(at=("main", 0)))
        self.assertIsNone(exchange.why_not(["main", 3]))
        self.assertEqual(Exchange(SUMMING, newer, {("main", 3): ("main", 5)}).unseen(), [("main", 3)])
        self.assertEqual(Exchange(SUMMING, newer, {}).unseen(), [])

    def test_held(self):
        led = all_led(WITH_DATA, WITH_DATA)
        take, ask = points(WITH_DATA)
        self.assertEqual(Exchange(WITH_DATA, WITH_DATA, led).unseen(), [take, ask])
        fewer = {key: aim for key, aim in led.items() if key != take}
        self.assertEqual(Exchange(WITH_DATA, WITH_DATA, fewer).why_not(take), ("held", (), "at"))
        self.assertIsNone(Exchange(WITH_DATA, WITH_DATA, fewer).why_not(ask))
        # The address lb is held by r4, and by the word behind the first take.
        fewer = {key: aim for key, aim in led.items() if key != ask}
        self.assertEqual(Exchange(WITH_DATA, WITH_DATA, fewer).why_not(take), ("held", (), ("register", 4)))
        self.assertEqual(Exchange(WITH_DATA, WITH_DATA, fewer).why_not(ask), ("held", (), "at"))
        two = image("set r5 tab", "set r4 lb", "set r3 sub+7", "la:", "ask lc", "lb:", "take r1", "goany la", "lc:",
                    "store r4 r5 1", "set r4 0", "set r3 tab+9", "ask la", "goany lb", "data tab", "word 0 0", "code sub", "stop")
        # An address behind the end of a piece is no address of a word, and cannot be led; one of a data piece can.
        led = all_led(two, two)
        self.assertEqual([Exchange(two, two, led).why_not(at) for at in points(two)],
                         [("held", (), ("register", 3)), ("held", (False,), ("register", 3)), None])
        led = {key: aim for key, aim in led.items() if key != points(two)[1]}
        # By (True) it waits first where r4 holds nothing of code, yet the word does.
        self.assertEqual(Exchange(two, two, led).why_not(points(two)[2]), ("held", (True,), ("word", "tab", 1)))

    def test_the_first_such_wait(self):
        # Of the waits by one row the first that is held back, though it is not the first.
        loop = image("la:", "take r1", "set r2 la", "take r1", "set r3 lb", "goany la", "lb:", "stop")
        led = {key: key for key in all_led(loop, loop) if key != ("main", 7)}
        self.assertEqual(points(loop)[0], ("main", 0))
        self.assertEqual(Exchange(loop, loop, led).why_not(("main", 0)),
                         ("held", (), ("register", 3)))
        led = {("main", 0): ("main", 0), ("main", 3): ("main", 3)}
        self.assertEqual(loop.word("main", 3), (1 + 32, ()))
        self.assertEqual(Exchange(loop, loop, led).why_not(("main", 3)), ("held", (), ("register", 3)))

    def test_lost(self):
        newer = image("la:", "take r1", "add r2 r1", "tell r2", "ask la", "ask bad", "goany la", "bad:", "jump r2")
        led = {("main", 0): ("main", 0), ("main", 3): ("main", 3)}
        exchange = Exchange(SUMMING, newer, led)
        self.assertEqual(exchange.why_not(("main", 0)), ("lost", (), (False, True)))
        self.assertEqual(exchange.why_not(("main", 3)), ("lost", (), (False, True)))
        self.assertEqual(Exchange(SUMMING, newer, {("main", 0): ("main", 6)}).why_not(("main", 0)), ("lost", (), ()))
        # A word of a code piece that is no right code word can be led to.
        strange = Image([("main", "code", [17, 0])], ("main", 1))
        self.assertEqual(Exchange(SUMMING, strange, {("main", 0): ("main", 0)}).why_not(("main", 0)), ("lost", (), ()))
        # Of two stands by the same row the least row by which other gets lost.
        one = image("la:", "take r1", "set r2 tab", "goany la", "data tab", "word 5")
        other = image("la:", "ask bad", "ask bad", "bad:", "load r1 r2 0", "take r1", "goany la", "data tab", "word 5")
        self.assertEqual(Exchange(one, other, {("main", 0): ("main", 0)}).why_not(("main", 0)), ("lost", (), (True,)))

    def test_parts(self):
        for newer, at, why in (
                (image("la:", "take r1", "add r2 r1", "tell r1", "ask la", "goany la"), 0, ("parts", (), 1)),
                (image("la:", "take r1", "add r2 r1", "tell r1", "ask la", "goany la"), 3, ("parts", (), 2)),
                (image("la:", "tell r0", "take r1", "add r2 r1", "tell r2", "ask la", "goany la"), 0, ("parts", (), 0)),
                (image("la:", "ask la", "take r1", "add r2 r1", "tell r2", "ask la", "goany la"), 0, ("parts", (), 0)),
                (image("stop"), 0, ("parts", (), 0)),
                (image("la:", "goany la"), 0, ("parts", (), 0)),
                (image("la:", "take r1", "add r2 r1", "tell r2", "ask lb", "stop", "lb:", "goany la"), 0, ("parts", (), 2)),
                (image("la:", "take r1", "add r2 r1", "tell r2", "ask lb", "goany la", "lb:", "take r0", "stop"), 3,
                 ("parts", (), 2))):
            led = {("main", 0): ("main", 0), ("main", 3): ("main", min(at, len(newer) - 1))}
            self.assertEqual(Exchange(SUMMING, newer, led).why_not(("main", at)), why)
        # Numbers handed in ahead tell both apart though no place does; places of code that are told, too.
        shown = image("la:", "take r1", "set r3 la", "ask lb", "goany la", "lb:", "tell r3", "goany la")
        self.assertEqual(Exchange(shown, shown, all_led(shown, shown)).why_not(("main", 0)), ("parts", (), 2))
        self.assertEqual(Exchange(shown, shown, all_led(shown, shown)).why_not(("main", 3)), ("parts", (), 1))
        data = image("set r3 tab", "la:", "take r1", "ask lb", "goany la", "lb:", "tell r3", "goany la", "data tab", "word 0")
        self.assertEqual(Exchange(data, data, all_led(data, data)).unseen(), [("main", 2), ("main", 3)])

    def test_by_whatever_row(self):
        # It first comes there with r2 as 0; later, at the same stand, with numbers that tell both apart.
        one = image("la:", "ask lb", "take r2", "goany la", "lb:", "tell r2", "ask la", "stop")
        other = image("la:", "ask lb", "take r2", "goany la", "lb:", "tell r0", "ask la", "stop")
        exchange = Exchange(one, other, all_led(one, other))
        self.assertEqual(exchange.why_not(("main", 0)), ("parts", (), 1))
        # Of several stands by the least row the least number.
        one = image("la:", "take r1", "set r2 tab", "goany la", "data tab", "word 5")
        other = image("la:", "take r1", "set r2 tab", "tell r2", "goany la", "data tab", "word 5")
        self.assertEqual(Exchange(one, other, {("main", 0): ("main", 0)}).why_not(("main", 0)), ("parts", (), 1))
        other = image("la:", "take r1", "tell r2", "goany la", "data tab", "word 5")
        same = image("la:", "take r1", "tell r3", "set r2 tab", "goany la", "data tab", "word 5")
        self.assertEqual(Exchange(same, other, {("main", 0): ("main", 0)}).why_not(("main", 0)), ("parts", (), 1))

    def test_the_least_of_several_stands_by_one_row(self):
        # The first wait by the row () is at another stand than all others, by what r4 holds.
        one = image("set r4 lx", "la:", "take r1", "set r4 ly", "goany la", "lx:", "stop", "ly:", "stop")
        take, lx, ly = ("main", 2), ("main", 6), ("main", 7)
        other = image("jump r4", "lx:", "ask bad", "goany lx", "bad:", "jump r0", "ly:", "jump r0", "told lx", "told ly")
        led = {take: ("main", 0), lx: ("main", 1), ly: ("main", 4)}
        self.assertEqual(Exchange(one, other, led).why_not(take), ("lost", (), ()))
        self.assertEqual(Exchange(one, other, {**led, ly: ("main", 1)}).why_not(take), ("lost", (), (True,)))
        other = image("jump r4", "lx:", "take r1", "take r1", "ly:", "tell r1", "stop")
        led = {take: ("main", 0), lx: ("main", 1), ly: ("main", 3)}
        self.assertEqual(Exchange(one, other, led).why_not(take), ("parts", (), 0))
        self.assertEqual(Exchange(one, other, {**led, ly: ("main", 1)}).why_not(take), ("parts", (), 2))
        self.assertEqual(Exchange(one, other, {**led, lx: ("main", 3), ly: ("main", 2)}).why_not(take), ("parts", (), 0))

    def test_what_is_told(self):
        # Plain numbers, numbers handed in later or ahead, places of data pieces, and of code pieces that go.
        def why(first, second, ahead="copy r0 r0"):
            one, other = [image("set r5 tab", ahead, "la:", "take r1", row, "tell r3", "goany la", "data tab", "word 0", "code x", "stop")
                          for row in (first, second)]
            return Exchange(one, other, {key: key for key in all_led(one, other)}).why_not(points(one)[0])
        self.assertEqual(why("set r3 1", "set r3 2"), ("parts", (), 1))
        self.assertIsNone(why("set r3 1", "set r3 2-1"))
        self.assertEqual(why("copy r3 r1", "copy r3 r0"), ("parts", (), 1))
        self.assertEqual(why("add r2 r1", "copy r2 r1", "copy r3 r2"), None)
        self.assertIsNone(why("set r3 tab+1", "set r3 tab+1"))
        self.assertEqual(why("set r3 tab+1", "set r3 tab"), ("parts", (), 1))
        self.assertEqual(why("set r3 x", "set r3 x"), ("parts", (), 1))
        self.assertEqual(why("copy r3 r2", "copy r3 r2", "set r2 2*x"), None)
        self.assertEqual(why("set r3 2*x", "set r3 2*x"), ("parts", (), 1))
        self.assertEqual(why("copy r3 r2", "copy r3 r2", "set r2 x"), ("parts", (), 1))

    def test_pieces_of_other_names(self):
        other = Image([("pc", "code", [0] * 3), ("pd", "code", [coded(1, 1), coded(10, 2, 1), coded(2, 2),
                                                               coded(3, 0, 0, -3), coded(5, 0, 0, -4)])], ("pc", 0))
        led = {("main", 0): ("pd", 0), ("main", 3): ("pd", 3)}
        self.assertEqual(Exchange(SUMMING, other, led).unseen(), [("main", 0), ("main", 3)])

    def test_errors(self):
        for thing in any_objects() + [("main", 1), ("main", 5), ("main", -1), ["main", 2], ("mai", 0)]:
            self.assert_raises_with(NoPoint, {"point": thing}, Exchange(SUMMING, SUMMING, {}).why_not, thing)
        lost = image("la:", "ask la", "jump r1")
        exchange = Exchange(lost, SUMMING, {})
        self.assert_raises_with(Lost, {"side": 1, "answers": (False,)}, exchange.unseen)
        for thing in any_objects():
            self.assert_raises_with(Lost, {"side": 1, "answers": (False,)}, exchange.why_not, thing)
        self.assertEqual(Exchange(SUMMING, lost, {("main", 0): ("main", 0)}).why_not(("main", 0)), ("lost", (), (False,)))

    def test_told_tuples(self):
        led = as_lists(all_led(WITH_DATA, WITH_DATA))
        exchange = Exchange(WITH_DATA, WITH_DATA, led)
        exchange.unseen().append(5)
        self.assertEqual(len(exchange.unseen()), 2)
        self.assertFalse(has_lists_within(tuple(exchange.led.values())))


class ByChance(unittest.TestCase):
    def test_beside_sums(self):
        rng = seeded(440)
        found = {}
        for _ in range(60):
            one = random_program(rng)
            other = other_program(rng, one)
            led = led_by_chance(rng, one, other)
            exchange = Exchange(one.image, other.image, led)
            whys = {at: exchange.why_not(at) for at in points(one.image)}
            self.assertEqual(exchange.unseen(), [at for at, why in whys.items() if why is None])
            for at, why in list(whys.items())[:2]:
                kind = self.look(one.image, other.image, led, at, why, 2)
                found[kind] = found.get(kind, 0) + 1
        self.assertGreaterEqual(min(found.get(kind, 0) for kind in ("unseen", "held", "lost", "parts")), 2)

    def look(self, one, other, led, at, why, depth):
        """Looks at what is told of a point by all rows of truths up to a depth."""
        waits = {}
        for many in range(depth + 1):
            for row in itertools.product((False, True), repeat=many):
                for state in waits_by(one, row, at)[:6]:
                    waits.setdefault((row, repr(state)), (row, state))
        waits = list(waits.values())
        held = [(row, where_held(one, state, led)) for row, state in waits if where_held(one, state, led)]
        if held or (why is not None and why[0] == "held"):
            if held or len(why[1]) <= depth:
                self.assertEqual(why, ("held",) + held[0])
            return "held"
        losses = [(row, first_loss(other, exchanged(one, state, led), depth)) for row, state in waits]
        losses = [(row, loss) for row, loss in losses if loss is not None]
        if losses or (why is not None and why[0] == "lost"):
            if losses:
                least = min([loss for row, loss in losses if row == losses[0][0]], key=lambda loss: (len(loss), loss))
                self.assertEqual(why, ("lost", losses[0][0], least))
            return "lost"
        partings = {}
        for row, state in waits:
            many = least_parting_by(one, other, state, exchanged(one, state, led), depth)
            if many is not None:
                stand = stand_of(state)
                partings[stand] = min(many, partings.get(stand, many))
        if why is None:
            self.assertEqual(partings, {})
            return "unseen"
        here = [partings[stand_of(state)] for row, state in waits if row == why[1] and stand_of(state) in partings]
        self.assertEqual(why[0], "parts")
        if here:
            self.assertLessEqual(why[2], min(here))
            return "parts"
        return "farther"


if __name__ == "__main__":
    unittest.main()
