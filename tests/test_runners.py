"""[92]: plain runs whose image is exchanged while they run."""

import copy
import unittest

from loadanywhere.errors import BadAnswer, BadLed, Ended, HeldBack, NoDeed, NoPlace, Over, UnlikeData, WordError
from loadanywhere.exchanges import Exchange
from loadanywhere.images import Image, laid
from loadanywhere.plainruns import Machine
from loadanywhere.runners import Runner
from loadanywhere.words import coded
from tests.helpers import Raising, any_objects, as_lists
from tests.naive import naive_free, random_image, random_placing, seeded, sum_of_value, worth
from tests.swaps import led_by_chance, other_program, random_program
from tests.test_exchanges import all_led, image


def state_of(runner):
    return (runner.registers(), runner.at(), runner.words(), runner.events(), runner.placing())


def random_answer(rng, runner):
    """An answer that fits where a runner waits; None if it is ended."""
    for answer in rng.sample([True, False], 2) + [rng.randint(-9, 9)]:
        try:
            many = len(runner.events())
            runner.give([answer])
            answered = [event for event in runner.events()[many:] if event[0] in ("take", "ask")]
            runner.undo()
            return answer if answered else None
        except BadAnswer:
            continue
        except Ended:
            return None
    return None


class NaiveRunner:
    """A run by its free run: addresses stay addresses, numbers are what they are worth at the placing."""

    def __init__(self, one, places):
        self.image, self.places = one, dict(places)
        zero = ("number", (0, ()))
        kinds = {p: kind for p, kind, _ in one.pieces()}
        data = {(p, k): self.fixed(word) for p, kind, words in one.pieces() for k, word in enumerate(words)
                if kind == "data"}
        self.state = (one.first, (zero,) * 8, data)
        self.heard = []
        self.kinds = kinds

    def fixed(self, one, handed=()):
        """A value whose number is a plain one."""
        number, parts = one
        if len(parts) == 1 and parts[0][1] == 1 and parts[0][0][0] == "piece":
            return ("at", parts[0][0][1], number)
        return ("number", (self.worth(one, handed), ()))

    def worth(self, one, handed):
        worths = {("piece", p): place for p, place in self.places.items()}
        worths.update({("in", k): number for k, number in enumerate(handed, 1)})
        return worth(one, worths)

    def go(self, answers):
        """Goes on by answers, to where none is left; the events, and whether it ended."""
        truths = [answer for answer in answers if isinstance(answer, bool)]
        handed = [answer for answer in answers if not isinstance(answer, bool)]
        stopped = []
        takes = [0]

        def watch(at, ins, registers, data, given):
            if ins[0] == "take":
                takes[0] += 1
                if takes[0] > len(handed) and not stopped:
                    stopped.append((at, tuple(registers), dict(data)))
        events, state, _ = naive_free(self.image, truths, watch, 300, self.state)
        found, many = [], 0
        for event in events:
            if event == ("take",):
                many += 1
                if many > len(handed):
                    break
                event = ("take", handed[many - 1])
            if event[0] == "tell":
                event = ("tell", self.worth(event[1], handed))
            if event == ("wait",):
                break
            found.append(event)
        at, registers, data = stopped[0] if stopped else state

        def value(held):
            return held if held[0] == "at" else ("number", (self.worth(held[1], handed), ()))
        self.state = (at, tuple(value(held) for held in registers), {key: value(held) for key, held in data.items()})
        self.heard += found
        return found

    def exchange(self, other, led, places):
        found = self.go([])
        kinds = {p: kind for p, kind, _ in self.image.pieces()}

        def value(held):
            return ("at",) + led[held[1:]] if held[0] == "at" and kinds[held[1]] == "code" else held
        at, registers, data = self.state
        self.state = (led[at], tuple(value(held) for held in registers), {key: value(held) for key, held in data.items()})
        self.places = {p: self.places[p] if kind == "data" else places[p] for p, kind, _ in other.pieces()}
        self.image = other
        return found

    def plain(self):
        """The registers, the place, the words, the events, the placing."""
        at, registers, data = self.state
        words = laid(self.image, self.places)
        for (p, k), held in data.items():
            words[self.places[p] + k] = self.worth(sum_of_value(held), ())
        return (tuple(self.worth(sum_of_value(held), ()) for held in registers), self.places[at[0]] + at[1], words,
                self.heard, self.places)


class AsMachines(unittest.TestCase):
    def test_without_exchanges(self):
        rng = seeded(450)
        for _ in range(60):
            one = random_image(rng)
            places = random_placing(rng, one)
            machine, runner = Machine(one, places), Runner(places=places, image=one)
            for _ in range(8):
                chance = rng.random()
                some = [rng.choice([True, False, 5, -1]) for _ in range(rng.randint(0, 3))]
                found = []
                for live in (machine, runner):
                    try:
                        found.append(live.give(some) if chance < 0.7 else live.undo() if chance < 0.85 else live.again())
                    except WordError as error:
                        found.append((error.__class__, vars(error)))
                self.assertEqual(found[0], found[1])
                self.assertEqual((machine.registers(), machine.at(), machine.words(), machine.events()),
                                 state_of(runner)[:4])
            self.assertEqual(runner.placing(), {p: places[p] for p, _, _ in one.pieces()})
            self.assertEqual(list(runner.placing()), [p for p, _, _ in one.pieces()])


SUMMING = image("la:", "take r1", "add r2 r1", "tell r2", "ask la", "goany la")
TWICE = Image([("code", "code", [coded(9), coded(1, 1), coded(10, 2, 1), coded(10, 2, 1), coded(2, 2), coded(3, 0, 0, -4),
                                 coded(5, 0, 0, -5)])], ("code", 1))
LED = {("main", 0): ("code", 1), ("main", 3): ("code", 5)}


class Exchanged(unittest.TestCase, Raising):
    def test_by_hand(self):
        runner = Runner(SUMMING, {"main": 100})
        self.assertEqual(runner.give([5]), [("take", 5), ("tell", 5)])
        self.assertEqual(runner.exchange(TWICE, LED, {"code": 7, "besides": None}), 2)
        self.assertEqual((runner.at(), runner.registers()[:3], runner.placing()), (12, (0, 5, 5), {"code": 7}))
        self.assertEqual(runner.words(), laid(TWICE, {"code": 7}))
        self.assertEqual(runner.give([True, 3]), [("ask", True), ("take", 3), ("tell", 11)])
        self.assertEqual(runner.exchange(places={"main": 0}, led={("code", 5): ["main", 3]}, other=SUMMING), 5)
        self.assertEqual(runner.give([False, 1]), [("ask", False), ("take", 1), ("tell", 12)])
        self.assertEqual(runner.events(), [("take", 5), ("tell", 5), ("ask", True), ("take", 3), ("tell", 11),
                                           ("ask", False), ("take", 1), ("tell", 12)])

    def test_events_ahead_of_where_it_waits_belong_to_it(self):
        one = image("tell r0", "here r1 7", "tell r1", "la:", "take r1", "tell r1", "goany la")
        runner = Runner(one, {"main": 50})
        self.assertEqual(runner.exchange(one, all_led(one, one), {"main": 90}), 2)
        self.assertEqual(runner.events(), [("tell", 0), ("tell", 7)])
        self.assertEqual(runner.at(), 93)
        self.assertEqual(runner.give([4]), [("take", 4), ("tell", 4)])
        # Led to where something is told, this is told by what comes next: another exchange, or a give.
        led = {("main", 3): ("main", 0), ("main", 0): ("main", 0)}
        self.assertEqual(runner.exchange(one, led, {"main": 0}), 4)
        self.assertEqual(runner.exchange(one, {("main", 3): ("main", 2)}, {"main": 0}), 6)
        self.assertEqual(runner.give([9]), [("tell", 7), ("take", 9), ("tell", 9)])

    def test_undo_and_again(self):
        runner = Runner(SUMMING, {"main": 100})
        states = [state_of(runner)]
        counts = [0]
        for deed in (lambda: runner.give([5, True]), lambda: runner.exchange(TWICE, LED, {"code": 7}),
                     lambda: runner.give([]), lambda: runner.give([2]),
                     lambda: runner.exchange(SUMMING, {("code", 5): ("main", 3)}, {"main": 3}), lambda: runner.give([False])):
            deed()
            states.append(state_of(runner))
            counts.append(len(runner.events()))
        for index in range(len(states) - 2, -1, -1):
            self.assertEqual(runner.undo(), counts[index])
            self.assertEqual(state_of(runner), states[index])
        self.assert_raises_with(NoDeed, {}, runner.undo)
        for index in range(1, len(states)):
            self.assertEqual(runner.again(), counts[index])
            self.assertEqual(state_of(runner), states[index])
        self.assert_raises_with(NoDeed, {}, runner.again)
        for _ in range(3):
            runner.undo()
        runner.exchange(TWICE, {key: key for key in all_led(TWICE, TWICE)}, {"code": 900})
        self.assert_raises_with(NoDeed, {}, runner.again)
        # What raises is no deed, and puts out nothing.
        runner.undo()
        with self.assertRaises(HeldBack):
            runner.exchange(TWICE, {}, {"code": 900})
        with self.assertRaises(BadAnswer):
            runner.give(["a"])
        self.assertEqual(runner.again(), counts[3])

    def test_words_that_are_stored_are_taken_back(self):
        one = image("set r5 tab", "la:", "take r1", "store r1 r5 0", "goany la", "data tab", "word 3")
        runner = Runner(one, {"main": 0, "tab": 50})
        runner.give([7])
        self.assertEqual(runner.words()[50], 7)
        runner.undo()
        self.assertEqual(runner.words()[50], 3)
        runner.exchange(one, all_led(one, one), {"main": 100})
        runner.give([8, 9])
        self.assertEqual(runner.words()[50], 9)
        runner.undo()
        self.assertEqual(runner.words()[50], 3)
        runner.undo()
        self.assertEqual((runner.words()[50], runner.placing()), (3, {"main": 0, "tab": 50}))

    def test_beside_free_runs(self):
        rng = seeded(451)
        exchanges = 0
        for _ in range(120):
            one = random_program(rng)
            programs = [one] + [other_program(rng, one) for _ in range(2)]
            places = random_placing(rng, one.image)
            runner, naive = Runner(one.image, places), NaiveRunner(one.image, places)
            here = one
            for _ in range(6):
                if rng.random() < 0.6:
                    answer = random_answer(rng, runner)
                    if answer is None:
                        break
                    right = naive.go([answer])
                    if right[-1:] and right[-1][0] in ("lost", "silent"):
                        break
                    self.assertEqual(runner.give([answer]), right, here.text)
                else:
                    other = rng.choice(programs)
                    led = led_by_chance(rng, here, other)
                    newer = random_placing(rng, other.image)
                    try:
                        runner.exchange(other.image, led, newer)
                    except (HeldBack, Ended, Over):
                        continue
                    naive.exchange(other.image, led, newer)
                    here = other
                    exchanges += 1
                self.assertEqual(state_of(runner), naive.plain(), here.text)
                self.assertEqual(list(runner.words()), sorted(runner.words()))
        self.assertGreater(exchanges, 60)

    def test_unseen_ones_are_not_seen(self):
        rng = seeded(452)
        unseen = 0
        for _ in range(80):
            one = random_program(rng)
            other = other_program(rng, one)
            led = led_by_chance(rng, one, other)
            points = Exchange(one.image, other.image, led).unseen()
            places = random_placing(rng, one.image)
            plain, swapped = Runner(one.image, places), Runner(one.image, places)
            here = {places[p] + k: (p, k) for p, k in points}
            for _ in range(8):
                answer = random_answer(rng, plain)
                if answer is None:
                    break
                if swapped.at() in here and swapped.placing() == places and swapped.events():
                    swapped.exchange(other.image, led, {"main": 10 ** 6, "sub": 2 * 10 ** 6})
                    unseen += 1
                plain.give([answer])
                swapped.give([answer])
                many = min(len(plain.events()), len(swapped.events()))
                if plain.events()[-1] != ("silent",) and swapped.events()[-1] != ("silent",):
                    self.assertEqual(plain.events()[:many], swapped.events()[:many])
                    self.assertEqual(len(plain.events()), len(swapped.events()), one.text + "\n\n" + other.text)
        self.assertGreater(unseen, 20)


class Counted(unittest.TestCase):
    def test_steps_are_counted_on(self):
        def filled(many):
            return Image([("c", "code", [coded(9)] * many + [coded(1, 1), coded(2, 1), coded(0)])], ("c", 0))
        for first, second, right in ((6000, 4000, [("silent",)]), (6000, 3999, []), (3000, 7000, [("silent",)])):
            runner = Runner(filled(first), {"c": 0})
            runner.exchange(filled(second), {("c", first): ("c", 0)}, {"c": 20000})
            self.assertEqual(runner.give([]), right)
        runner = Runner(filled(6000), {"c": 0})
        runner.exchange(filled(3999), {("c", 6000): ("c", 0)}, {"c": 20000})
        self.assertEqual(runner.give([8]), [("take", 8), ("tell", 8), ("stop",)])
        # An answer begins to count anew.
        again = Image([("c", "code", [coded(3, 0, 0, 1)] + [coded(9)] * 9999 + [coded(5, 0, 0, -9999)])], ("c", 0))
        runner = Runner(again, {"c": 0})
        runner.give([True])
        self.assertEqual(runner.events(), [("ask", True), ("silent",)])


class Refusals(unittest.TestCase, Raising):
    def setUp(self):
        self.one = image("set r5 tab", "set r3 sub", "la:", "take r1", "load r2 r5 0", "tell r2", "goany la", "code sub",
                         "jump r7", "data tab", "word 7 8")
        self.other = Image([("x", "code", [coded(1, 1), coded(0)]), ("tab", "data", [1, 2]), ("y", "code", [0] * 5),
                            ("z", "code", [])], ("x", 0))
        self.led = {("main", 4): ("x", 0), ("sub", 0): ("y", 2)}
        self.places = {"x": 0, "y": 10, "z": 12}
        self.runner = Runner(self.one, {"main": 100, "sub": 200, "tab": 300})

    def test_in_order(self):
        runner, other = self.runner, self.other
        unlike = Image([("x", "code", [0]), ("tab", "data", [1])], ("x", 0))
        before = state_of(runner)
        for thing in any_objects():
            if thing.__class__ is not dict:
                self.assert_raises_with(NoPlace, {"p": "x"}, runner.exchange, other, self.led, thing)
                self.assert_raises_with(BadLed, {"address": None}, runner.exchange, other, thing, None)
            if thing.__class__ is not int:
                self.assert_raises_with(NoPlace, {"p": "y"}, runner.exchange, other, {}, {"x": 1, "y": thing, "tab": None})
        self.assert_raises_with(UnlikeData, {"p": "tab"}, runner.exchange, unlike, None, None)
        self.assert_raises_with(BadLed, {"address": ("main", 99)}, runner.exchange, other, {("main", 99): ("x", 0)}, None)
        self.assert_raises_with(Over, {"p": "x", "q": "y"}, runner.exchange, other, {}, {"x": 11, "y": 10, "z": 0})
        self.assert_raises_with(Over, {"p": "x", "q": "tab"}, runner.exchange, other, {}, {"x": 301, "y": 300, "z": 0})
        self.assert_raises_with(Over, {"p": "tab", "q": "y"}, runner.exchange, other, {}, {"x": 0, "y": 297, "z": 0})
        self.assert_raises_with(HeldBack, {"where": "at"}, runner.exchange, other, {("sub", 0): ("y", 0)}, self.places)
        self.assert_raises_with(HeldBack, {"where": ("register", 3)}, runner.exchange, other, {("main", 4): ("x", 0)},
                                self.places)
        self.assertEqual(state_of(runner), before)
        # Code pieces may lie where those lay that go.
        runner.exchange(other, self.led, {"x": 100, "y": 201, "z": 300})
        self.assertEqual(runner.registers()[3], 203)
        self.assertEqual(runner.placing(), {"x": 100, "tab": 300, "y": 201, "z": 300})
        self.assertEqual(list(runner.placing()), ["x", "tab", "y", "z"])
        self.assertEqual([runner.words()[place] for place in (300, 301)], [7, 8])
        self.assertEqual(runner.give([1]), [("take", 1), ("stop",)])

    def test_ended(self):
        ends = image("tell r0", "ask la", "stop", "la:", "stop")
        runner = Runner(ends, {"main": 0})
        runner.give([True])
        self.assert_raises_with(Ended, {}, runner.exchange, None, None, None)
        runner = Runner(image("tell r0", "stop"), {"main": 0})
        self.assert_raises_with(Ended, {}, runner.exchange, self.other, None, None)
        self.assertEqual((runner.events(), runner.at()), ([], 0))
        self.assert_raises_with(NoDeed, {}, runner.undo)
        runner = Runner(image("la:", "go la"), {"main": 0})
        self.assert_raises_with(Ended, {}, runner.exchange, self.other, None, None)

    def test_words_hold_back(self):
        one = image("set r5 tab", "set r1 lb+1", "store r1 r5 1", "set r1 0", "lb:", "take r1", "stop", "data tab", "word 0 0")
        runner = Runner(one, {"main": 0, "tab": 50})
        led = {("main", 7): ("main", 7)}
        self.assertEqual(one.word("main", 7), (33, ()))
        self.assert_raises_with(HeldBack, {"where": ("word", "tab", 1)}, runner.exchange, one, led, {"main": 90})
        led[("main", 8)] = ("main", 3)
        runner.exchange(one, led, {"main": 90})
        self.assertEqual(runner.words()[51], 93)

    def test_the_free_run_is_lost(self):
        # It jumps by a number; the plain run goes on where that leads.
        one = image("la:", "take r1", "jump r1")
        runner = Runner(one, {"main": 40})
        runner.give([40, 40])
        self.assertEqual(runner.events(), [("take", 40), ("take", 40)])
        self.assert_raises_with(HeldBack, {"where": "at"}, runner.exchange, one, all_led(one, one), {"main": 0})
        runner.undo()
        runner.exchange(one, all_led(one, one), {"main": 0})
        # Lost behind a yes that leads to a number.
        one = Image([("c", "code", [coded(4), 7, coded(0), coded(5, 0, 0, -3)])], ("c", 0))
        for answer, right in ((True, HeldBack), (False, Ended)):
            runner = Runner(one, {"c": 7})
            runner.give([answer])
            with self.assertRaises(right):
                runner.exchange(one, all_led(one, one), {"c": 0})
        # Lost just where it waits: by its sum the word there is no right code word.
        strange = Image([("c", "code", [(1 - 5, [(("piece", "c"), 1)]), coded(0)])], ("c", 0))
        runner = Runner(strange, {"c": 5})
        self.assertEqual(runner.give([]), [])
        self.assert_raises_with(HeldBack, {"where": "at"}, runner.exchange, strange, all_led(strange, strange), {"c": 0})
        self.assertEqual(runner.give([3]), [("take", 3), ("stop",)])

    def test_numbers_stay_as_they_are(self):
        one = image("set r1 main", "set r2 0", "add r2 r1", "la:", "take r3", "tell r1", "tell r2", "goany la")
        runner = Runner(one, {"main": 1000})
        runner.exchange(one, all_led(one, one), {"main": 5})
        self.assertEqual(runner.give([0]), [("take", 0), ("tell", 5), ("tell", 1000)])

    def test_lists_and_changes_behind(self):
        led, places = as_lists(self.led), dict(self.places)
        self.runner.exchange(self.other, led, places)
        led.clear()
        places["x"] = 5
        before = copy.deepcopy(state_of(self.runner))
        for thing in (self.runner.words(), self.runner.placing()):
            thing.clear()
        self.runner.events().append(5)
        self.assertEqual(state_of(self.runner), before)
        given = {"main": 100, "sub": 200, "tab": 300}
        runner = Runner(self.one, given)
        given["tab"] = 5
        self.assertEqual(runner.placing()["tab"], 300)
        self.assert_raises_with(NoPlace, {"p": "sub"}, Runner, self.one, {"main": 0})
        self.assert_raises_with(Over, {"p": "main", "q": "sub"}, Runner, self.one, {"main": 0, "sub": 1, "tab": 2})


if __name__ == "__main__":
    unittest.main()
