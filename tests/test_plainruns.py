"""[11], [12], by the instructions of [8]: plain runs."""

import unittest

from loadanywhere.errors import BadAnswer, Ended, NoDeed, NoPlace, Over
from loadanywhere.images import Image, laid
from loadanywhere.plainruns import Machine, played
from loadanywhere.words import coded
from tests.helpers import Raising, any_objects, at
from tests.naive import naive_plain, random_image, random_placing, seeded, steady_image

STOP, TAKE, TELL, ASK, ASKFAR, GO, GOFAR, SET, HERE, COPY, ADD, LESS, LOAD, STORE, CALL, CALLFAR, JUMP = range(17)


def code(words, data=()):
    return Image([("a", "code", words), ("d", "data", data)], ("a", 0))


def run(words, answers=(), data=(), place=100, far=1000):
    return played(code(words, data), {"a": place, "d": far}, answers)


def tell_of(words, data=(), place=100, far=1000):
    """What is told first by these words, with a tell of r1 and a stop behind them."""
    events = run(words + [coded(TELL, 1), 0], (), data, place, far)
    return events[0][1]


class Instructions(unittest.TestCase):
    def test_stop(self):
        self.assertEqual(run([0]), [("stop",)])

    def test_take_tell(self):
        self.assertEqual(run([coded(TAKE, 5), coded(TELL, 5), 0], [-8]), [("take", -8), ("tell", -8), ("stop",)])

    def test_ask(self):
        words = [coded(ASK, d=2), 0, coded(TELL, 1), 0]
        self.assertEqual(run(words, [True]), [("ask", True), ("tell", 0), ("stop",)])
        self.assertEqual(run(words, [False]), [("ask", False), ("stop",)])

    def test_askfar(self):
        words = [coded(ASKFAR), at("a", 4), coded(TELL, 1), 0, 0]
        self.assertEqual(run(words, [True]), [("ask", True), ("stop",)])
        self.assertEqual(run(words, [False]), [("ask", False), ("tell", 0), ("stop",)])

    def test_go(self):
        self.assertEqual(run([coded(GO, d=2), 17, 0]), [("stop",)])
        self.assertEqual(run([coded(GOFAR), at("a", 3), 17, 0]), [("stop",)])
        self.assertEqual(run([coded(GOFAR), 103, 17, 0]), [("stop",)])
        self.assertEqual(run([coded(GO, d=-100)]), [("fall", 0)])
        self.assertEqual(run([coded(GO, d=300)] + [17] * 299 + [0]), [("stop",)])

    def test_set_here(self):
        self.assertEqual(tell_of([coded(SET, 1), at("d", 3)]), 1003)
        self.assertEqual(tell_of([coded(SET, 1), -4]), -4)
        self.assertEqual(tell_of([coded(COPY, 1, 1), coded(HERE, 1, 0, 7)]), 108)

    def test_copy_add_less(self):
        begin = [coded(SET, 1), 50, coded(SET, 2), 8]
        self.assertEqual(tell_of(begin + [coded(COPY, 1, 2)]), 8)
        self.assertEqual(tell_of(begin + [coded(ADD, 1, 2)]), 58)
        self.assertEqual(tell_of(begin + [coded(LESS, 1, 2)]), 42)
        self.assertEqual(tell_of(begin + [coded(ADD, 1, 1)]), 100)
        self.assertEqual(tell_of(begin + [coded(LESS, 1, 1)]), 0)

    def test_load_store(self):
        begin = [coded(SET, 2), at("d", 5)]
        self.assertEqual(tell_of(begin + [coded(LOAD, 1, 2, -4)], [7, 8, 9]), 8)
        self.assertEqual(tell_of(begin + [coded(STORE, 2, 2, -5), coded(LOAD, 1, 2, -5)], [7, 8, 9]), 1005)
        self.assertEqual(tell_of([coded(SET, 2), at("a"), coded(LOAD, 1, 2, 1)]), 100)

    def test_call_jump(self):
        self.assertEqual(run([coded(CALL, d=2), 0, coded(TELL, 7), coded(JUMP, 7)]), [("tell", 101), ("stop",)])
        self.assertEqual(run([coded(CALLFAR), at("a", 3), 0, coded(TELL, 7), coded(JUMP, 7)]),
                         [("tell", 102), ("stop",)])
        self.assertEqual(run([coded(JUMP, 3)]), [("fall", 0)])

    def test_words_by_their_worths(self):
        # A word with a place in it is an instruction at the places at which it is worth one.
        self.assertEqual(run([(0, [(("piece", "d"), 1)])], place=100, far=0), [("stop",)])
        self.assertEqual(run([(0, [(("piece", "d"), 1)])], place=100, far=17), [("fall", 100)])
        word = (coded(GO), [(("piece", "d"), 2048), (("piece", "a"), -2048)])
        self.assertEqual(played(Image([("a", "code", [word]), ("d", "code", [0])], ("a", 0)), {"a": 5, "d": 90}, []),
                         [("stop",)])


    def test_begins_at_the_start(self):
        image = Image([("d", "data", [1]), ("a", "code", [17, 17, coded(HERE, 1), coded(TELL, 1), 0])], ("a", 2))
        self.assertEqual(played(image, {"a": 40, "d": 0}, []), [("tell", 42), ("stop",)])
        self.assertEqual(Machine(image, {"a": 40, "d": 0}).at(), 42)


class Ends(unittest.TestCase):
    def test_falls_where_it_goes_on(self):
        self.assertEqual(run([coded(COPY)]), [("fall", 101)])
        self.assertEqual(run([coded(20)]), [("fall", 100)])
        self.assertEqual(run([coded(TELL, 0, 1)]), [("fall", 100)])
        self.assertEqual(run([coded(GOFAR), at("d")], data=[0]), [("fall", 1000)])

    def test_falls_without_a_second_word(self):
        for one in (ASKFAR, GOFAR, SET, CALLFAR):
            self.assertEqual(run([coded(COPY), coded(one)]), [("fall", 101)])
        # A word of another piece right behind is no second word; as an instruction it is one.
        image = Image([("a", "code", [coded(SET)]), ("b", "code", [0])], ("a", 0))
        self.assertEqual(played(image, {"a": 0, "b": 1}, []), [("fall", 0)])
        image = Image([("a", "code", [coded(COPY)]), ("b", "code", [0])], ("a", 0))
        self.assertEqual(played(image, {"a": 0, "b": 1}, []), [("stop",)])

    def test_falls_of_loads_and_stores(self):
        begin = [coded(SET, 2), at("d")]
        self.assertEqual(run(begin + [coded(LOAD, 1, 2, 1)], data=[0]), [("fall", 102)])
        self.assertEqual(run(begin + [coded(STORE, 1, 2, -1)], data=[0]), [("fall", 102)])
        self.assertEqual(run([coded(SET, 2), at("a"), coded(STORE, 2, 2, 0)]), [("fall", 102)])

    def test_silent_behind_just_so_many(self):
        self.assertEqual(run([coded(COPY)] * 9999 + [0]), [("stop",)])
        self.assertEqual(run([coded(COPY)] * 10000 + [0], far=-1), [("silent",)])
        self.assertEqual(run([coded(COPY)] * 9999 + [17], far=-1), [("fall", 10099)])
        self.assertEqual(run([coded(COPY)] * 10000 + [17], far=-1), [("silent",)])
        self.assertEqual(run([coded(COPY)] * 9999 + [coded(TAKE)], far=-1), [("wait",)])
        self.assertEqual(run([coded(COPY)] * 10000 + [coded(TAKE)], [1], far=-1), [("silent",)])
        self.assertEqual(run([coded(TELL)] * 10000 + [0], far=-1), [("tell", 0)] * 10000 + [("silent",)])
        self.assertEqual(run([coded(GO)]), [("silent",)])

    def test_silent_since_the_last_answer(self):
        for one, answer in ((TAKE, 3), (ASK, False)):
            words = [coded(COPY)] * 5 + [coded(one)] + [coded(COPY)] * 9999
            self.assertEqual(run(words + [0], [answer], far=-1)[-1], ("stop",))
            self.assertEqual(run(words + [coded(COPY), 0], [answer], far=-1)[-1], ("silent",))

    def test_wait(self):
        self.assertEqual(run([coded(TAKE)]), [("wait",)])
        self.assertEqual(run([coded(ASK)]), [("wait",)])
        self.assertEqual(run([coded(ASKFAR), 0]), [("wait",)])
        self.assertEqual(run([coded(ASKFAR)]), [("fall", 100)])


class Answers(unittest.TestCase, Raising):
    def setUp(self):
        self.image = code([coded(TAKE), coded(ASK, d=1), 0])
        self.places = {"a": 0, "d": 10}

    def test_bad_answers(self):
        for thing in any_objects():
            if not isinstance(thing, (list, tuple)):
                self.assert_raises_with(BadAnswer, {"index": 0}, played, self.image, self.places, thing)
                self.assert_raises_with(BadAnswer, {"index": 0}, played, code([0]), self.places, thing)
            if isinstance(thing, bool) or not isinstance(thing, int):
                self.assert_raises_with(BadAnswer, {"index": 0}, played, self.image, self.places, [thing, thing])
            if not isinstance(thing, bool):
                self.assert_raises_with(BadAnswer, {"index": 1}, played, self.image, self.places, [5, thing])

    def test_passed_over(self):
        self.assertEqual(played(self.image, self.places, (5, True, None, [])), [("take", 5), ("ask", True), ("stop",)])

    def test_placing_first(self):
        self.assert_raises_with(NoPlace, {"p": "a"}, played, self.image, None, None)
        image = code([0], [0])
        self.assert_raises_with(Over, {"p": "a", "q": "d"}, played, image, {"a": 0, "d": 0}, None)

    def test_by_name(self):
        self.assertEqual(played(answers=[], places=self.places, image=self.image), [("wait",)])


class Machines(unittest.TestCase, Raising):
    def setUp(self):
        self.image = code([coded(SET, 2), at("d"), coded(TELL, 2), coded(TAKE, 1), coded(STORE, 1, 2, 1),
                           coded(ASK, d=-3), 0], [4, 5])
        self.machine = Machine(self.image, {"a": 100, "d": 10})

    def test_ahead_of_all(self):
        self.assertEqual(self.machine.registers(), (0,) * 8)
        self.assertEqual(self.machine.at(), 100)
        self.assertEqual(self.machine.events(), [])
        self.assertEqual(list(self.machine.words().items()), list(laid(self.image, {"a": 100, "d": 10}).items()))
        self.assert_raises_with(NoDeed, {}, self.machine.undo)
        self.assert_raises_with(NoDeed, {}, self.machine.again)

    def test_given_nothing(self):
        self.assertEqual(self.machine.give([]), [("tell", 10)])
        self.assertEqual(self.machine.give(()), [])
        self.assertEqual(self.machine.at(), 103)
        self.assertEqual(self.machine.undo(), 1)
        self.assertEqual(self.machine.undo(), 0)
        self.assertEqual(self.machine.at(), 100)
        self.assertEqual(self.machine.give(answers=[]), [("tell", 10)])

    def test_given_several_times(self):
        self.assertEqual(self.machine.give([7]), [("tell", 10), ("take", 7)])
        self.assertEqual((self.machine.at(), self.machine.words()[11], self.machine.registers()[1]), (105, 7, 7))
        self.assertEqual(self.machine.give([True]), [("ask", True), ("tell", 10)])
        self.assertEqual(self.machine.give([8, False, None]), [("take", 8), ("ask", False), ("stop",)])
        self.assertEqual(self.machine.at(), 106)
        self.assertEqual(self.machine.events(), [("tell", 10), ("take", 7), ("ask", True), ("tell", 10), ("take", 8),
                                                 ("ask", False), ("stop",)])

    def test_ended(self):
        self.machine.give([1, False])
        self.assertEqual(self.machine.give([]), [])
        self.assert_raises_with(Ended, {}, self.machine.give, [None])
        self.assert_raises_with(BadAnswer, {"index": 0}, self.machine.give, None)
        self.assertEqual(self.machine.undo(), 4)
        self.assertEqual(self.machine.undo(), 0)
        self.assertEqual(Machine(code([0]), {"a": 0, "d": 0}).give([True]), [("stop",)])

    def test_undone_and_done_again(self):
        machine = self.machine
        machine.give([7])
        machine.give([True, 8])
        states = (machine.registers(), machine.at(), machine.words(), machine.events())
        self.assertEqual(machine.undo(), 2)
        self.assertEqual(machine.words()[11], 7)
        self.assertEqual(machine.undo(), 0)
        self.assertEqual(machine.words()[11], 5)
        self.assert_raises_with(NoDeed, {}, machine.undo)
        self.assertEqual(machine.again(), 2)
        self.assertEqual(machine.again(), 5)
        self.assertEqual((machine.registers(), machine.at(), machine.words(), machine.events()), states)
        self.assert_raises_with(NoDeed, {}, machine.again)
        machine.undo()
        machine.give([])
        self.assert_raises_with(NoDeed, {}, machine.again)
        self.assertEqual(machine.undo(), 2)

    def test_what_raises_changes_nothing(self):
        machine = self.machine
        machine.give([7])
        machine.give([True])
        machine.undo()
        before = (machine.registers(), machine.at(), machine.words(), machine.events())
        for thing in any_objects():
            if not isinstance(thing, (list, tuple)):
                self.assert_raises_with(BadAnswer, {"index": 0}, machine.give, thing)
        self.assert_raises_with(BadAnswer, {"index": 2}, machine.give, [True, 8, 9])
        self.assertEqual((machine.registers(), machine.at(), machine.words(), machine.events()), before)
        self.assertEqual(machine.again(), 4)

    def test_at_its_end(self):
        for words, place in (([coded(COPY), 0], 101), ([coded(COPY)], 101), ([coded(GO)], 100),
                             ([coded(GO, d=1), coded(GO, d=-1)], 100), ([coded(LOAD, 1, 1)], 100)):
            machine = Machine(code(words), {"a": 100, "d": 5})
            machine.give([])
            self.assertEqual(machine.at(), place)

    def test_changed_behind(self):
        self.machine.give([7])
        self.machine.events().clear()
        self.machine.words().clear()
        self.assertEqual(len(self.machine.events()), 2)
        self.assertEqual(len(self.machine.words()), 9)
        places = {"a": 100, "d": 10}
        machine = Machine(self.image, places)
        places.clear()
        self.assertEqual(machine.give([]), [("tell", 10)])
        self.assertEqual(self.image.word("d", 1), (5, ()))

    def test_errors_of_placing(self):
        self.assert_raises_with(NoPlace, {"p": "d"}, Machine, self.image, {"a": 0})
        self.assert_raises_with(Over, {"p": "a", "q": "d"}, Machine, places={"a": 0, "d": 1}, image=self.image)


class BesideAnother(unittest.TestCase):
    def test_random_runs(self):
        for seed in range(150):
            rng = seeded(seed)
            image = random_image(rng) if seed % 3 else steady_image(rng, rng.randint(4, 12))
            places = random_placing(rng, image)
            answers = []
            for _ in range(rng.randint(0, 9)):
                events = naive_plain(image, places, answers)[0]
                if events[-1] != ("wait",):
                    break
                answers.append(rng.randint(-5, 5))
                try:
                    played(image, places, answers)
                except BadAnswer:
                    answers[-1] = rng.random() < 0.5
            events, registers, words = naive_plain(image, places, answers)
            self.assertEqual(played(image, places, answers), events)
            machine = Machine(image, places)
            parts = machine.give([])
            for answer in answers:
                parts = parts + machine.give([answer])
            waits = [] if machine.at() is None or events[-1] != ("wait",) else [("wait",)]
            self.assertEqual(parts + waits, events)
            self.assertEqual((machine.registers(), machine.words()), (tuple(registers), words))
