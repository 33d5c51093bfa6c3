"""[13], [14], with what [15] calls a stand: free runs."""

import unittest

from loadanywhere.errors import BadAnswer
from loadanywhere.freeruns import FreeRun, program_of
from loadanywhere.freenumbers import SumNumbers
from loadanywhere.freetold import free_events, free_state
from loadanywhere.images import Image
from loadanywhere.plainruns import played
from loadanywhere.words import coded
from tests.helpers import Raising, any_objects, at, has_lists_within
from tests.naive import naive_free, random_image, random_placing, seeded, steady_image, worth

STOP, TAKE, TELL, ASK, ASKFAR, GO, GOFAR, SET, HERE, COPY, ADD, LESS, LOAD, STORE, CALL, CALLFAR, JUMP = range(17)
A, D = ("piece", "a"), ("piece", "d")
ZERO = ("number", (0, ()))


def code(words, data=()):
    return Image([("a", "code", words), ("d", "data", data)], ("a", 0))


def events(words, answers=(), data=()):
    return free_events(code(words, data), answers)


def register(words, x, answers=(), data=()):
    return free_state(code(words + [0], data), answers)[1][x]


class Values(unittest.TestCase):
    def test_at_first(self):
        image = code([coded(ASK)], [5, at("a", -3), (1, [(A, 2)]), at("d", 99)])
        at_, registers, words = free_state(image, [])
        self.assertEqual(at_, ("a", 0))
        self.assertEqual(registers, (ZERO,) * 8)
        self.assertEqual(list(words.items()), [
            (("d", 0), ("number", (5, ()))), (("d", 1), ("at", "a", -3)), (("d", 2), ("number", (1, ((A, 2),)))),
            (("d", 3), ("at", "d", 99))])

    def test_set(self):
        self.assertEqual(register([coded(SET, 1), at("d", 7)], 1), ("at", "d", 7))
        self.assertEqual(register([coded(SET, 1), 7], 1), ("number", (7, ())))
        self.assertEqual(register([coded(SET, 1), (7, [(A, -1)])], 1), ("number", (7, ((A, -1),))))

    def test_here(self):
        self.assertEqual(register([coded(COPY), coded(HERE, 1, 0, 5)], 1), ("at", "a", 6))
        self.assertEqual(register([coded(HERE, 1, 0, -900)], 1), ("at", "a", -900))
        self.assertEqual(register([coded(COPY), (coded(HERE, 1, 0, 5), [(D, 2048)])], 1),
                         ("number", (6, ((A, 1), (D, 1)))))
        self.assertEqual(register([coded(COPY), (coded(HERE, 1, 0, 5), [(D, 2048), (A, -2048)])], 1), ("at", "d", 6))

    def test_calls(self):
        self.assertEqual(register([coded(CALL, d=1)], 7), ("at", "a", 1))
        self.assertEqual(register([coded(CALLFAR), at("a", 2)], 7), ("at", "a", 2))

    def test_takes(self):
        words = [coded(TAKE, 1), coded(TAKE, 2), coded(ADD, 1, 1), coded(ADD, 1, 2), coded(TELL, 1), 0]
        self.assertEqual(events(words), [("take",), ("take",), ("tell", (0, ((("in", 1), 2), (("in", 2), 1)))),
                                         ("stop",)])

    def test_numbers_are_no_addresses(self):
        begin = [coded(SET, 1), at("d", 1)]
        self.assertEqual(register(begin + [coded(ADD, 1, 2)], 1), ("number", at("d", 1)))
        self.assertEqual(register(begin + [coded(COPY, 2, 1), coded(LESS, 1, 2)], 1), ZERO)
        self.assertEqual(events(begin + [coded(ADD, 1, 2), coded(LOAD, 3, 1)], data=[1, 2]), [("lost", "a", 3)])
        self.assertEqual(events([coded(SET, 1), at("a"), coded(ADD, 1, 2), coded(JUMP, 1)]), [("lost", "a", 3)])

    def test_handed_on(self):
        begin = [coded(SET, 1), at("d"), coded(SET, 2), at("a", 40)]
        whole = begin + [coded(STORE, 2, 1, 1), coded(LOAD, 3, 1, 1), coded(COPY, 4, 3), coded(LOAD, 5, 1, 0)]
        _, registers, words = free_state(code(whole + [0], [(3, [(A, 3)]), 0]), [])
        self.assertEqual(registers[3:6], (("at", "a", 40), ("at", "a", 40), ("number", (3, ((A, 3),)))))
        self.assertEqual(words[("d", 1)], ("at", "a", 40))

    def test_words_of_code_are_loaded(self):
        words = [coded(SET, 1), at("a"), coded(LOAD, 2, 1, 1), coded(LOAD, 3, 1, 0), 0]
        self.assertEqual(free_state(code(words), [])[1][2:4], (("at", "a", 0), ("number", (coded(SET, 1), ()))))

    def test_tells_addresses_by_their_sums(self):
        self.assertEqual(events([coded(HERE, 1), coded(TELL, 1), 0]), [("tell", at("a")), ("stop",)])


    def test_begins_at_the_start(self):
        image = Image([("d", "data", [1]), ("a", "code", [17, 17, coded(HERE, 1), coded(TELL, 1), 0])], ("a", 2))
        self.assertEqual(free_events(image, []), [("tell", at("a", 2)), ("stop",)])


class Lost(unittest.TestCase):
    def test_loads_and_stores(self):
        for word in (coded(LOAD, 2, 1), coded(STORE, 2, 1)):
            self.assertEqual(events([word, 0]), [("lost", "a", 0)])
            self.assertEqual(events([coded(SET, 1), at("d", 2), word, 0], data=[1, 2]), [("lost", "a", 2)])
            self.assertEqual(events([coded(SET, 1), at("d", -1), word, 0], data=[1, 2]), [("lost", "a", 2)])
            self.assertEqual(events([coded(SET, 1), at("d"), (word, [(D, 2048)]), 0], data=[1]), [("lost", "a", 2)])
        self.assertEqual(events([coded(SET, 1), at("a"), coded(STORE, 2, 1)]), [("lost", "a", 2)])

    def test_goes(self):
        for word in ((coded(GO), [(D, 2048)]), (coded(CALL), [(D, 2048)])):
            self.assertEqual(events([coded(COPY), word, 0]), [("lost", "a", 1)])
        for one in (GOFAR, CALLFAR):
            self.assertEqual(events([coded(one), 0, 0]), [("lost", "a", 0)])
            self.assertEqual(events([coded(one), (0, [(A, 2)]), 0]), [("lost", "a", 0)])
        self.assertEqual(events([coded(JUMP, 3), 0]), [("lost", "a", 0)])

    def test_where_nothing_stands(self):
        self.assertEqual(events([coded(COPY)]), [("lost", "a", 1)])
        self.assertEqual(events([coded(GO, d=-3)]), [("lost", "a", -3)])
        self.assertEqual(events([coded(GOFAR), at("d")], data=[0]), [("lost", "d", 0)])
        self.assertEqual(events([coded(17)]), [("lost", "a", 0)])
        self.assertEqual(events([(0, [(A, 1)])]), [("lost", "a", 0)])
        for one in (ASKFAR, GOFAR, SET, CALLFAR):
            self.assertEqual(events([coded(COPY), coded(one)]), [("lost", "a", 1)])

    def test_the_next_piece_is_another(self):
        image = Image([("a", "code", [coded(COPY)]), ("b", "code", [0])], ("a", 0))
        self.assertEqual(free_events(image, []), [("lost", "a", 1)])

    def test_an_ask_behind_its_yes_alone(self):
        for words in ([(coded(ASK), [(D, 2048)]), 0], [coded(ASKFAR), 7, 0]):
            self.assertEqual(events(words, [True]), [("ask", True), ("lost", "a", 0)])
            self.assertEqual(events(words, [False]), [("ask", False), ("stop",)])
            self.assertEqual(free_state(code(words), [True])[0], ("a", 0))

    def test_a_d_that_leads_to_an_address(self):
        word = (coded(GO, d=1), [(("piece", "b"), 2048), (A, -2048)])
        image = Image([("a", "code", [coded(COPY), word]), ("b", "code", [17, 17, 0])], ("a", 0))
        self.assertEqual(free_events(image, []), [("stop",)])
        self.assertEqual(free_state(image, [])[0], ("b", 2))

    def test_what_cannot_be_done_changes_nothing(self):
        self.assertEqual(free_state(code([coded(CALLFAR), 5]), [])[1][7], ZERO)
        self.assertEqual(free_state(code([(coded(CALL), [(D, 2048)])]), [])[1][7], ZERO)
        self.assertEqual(free_state(code([coded(HERE, 7), coded(CALLFAR), 5]), [])[1][7], ("at", "a", 0))

    def test_an_address_outside_is_let(self):
        self.assertEqual(events([coded(SET, 1), at("d", 1000), coded(LOAD, 2, 1, -1000), 0], data=[9]), [("stop",)])


class EventsTold(unittest.TestCase, Raising):
    def test_silent(self):
        for one in (COPY, TAKE, TELL):
            self.assertEqual(events([coded(one)] * 9999 + [0])[-1], ("stop",))
            self.assertEqual(events([coded(one)] * 10000 + [0])[-1], ("silent",))
        self.assertEqual(events([coded(COPY)] * 10000 + [17]), [("silent",)])
        self.assertEqual(events([coded(COPY)] * 10000 + [coded(ASK)], [None]), [("silent",)])
        words = [coded(COPY)] * 7 + [coded(ASK, d=1)] + [coded(COPY)] * 9999
        self.assertEqual(events(words + [0], [True]), [("ask", True), ("stop",)])
        self.assertEqual(events(words + [coded(COPY), 0], [True]), [("ask", True), ("silent",)])

    def test_wait(self):
        self.assertEqual(events([coded(ASK)]), [("wait",)])
        self.assertEqual(events([coded(ASKFAR), 0, 0], [False]), [("ask", False), ("stop",)])
        self.assertEqual(events([coded(ASK)], [True]), [("ask", True), ("wait",)])

    def test_bad_answers(self):
        image = code([coded(ASK, d=1), coded(ASK, d=1), 0])
        for call in (free_events, free_state):
            for thing in any_objects():
                if not isinstance(thing, (list, tuple)):
                    self.assert_raises_with(BadAnswer, {"index": 0}, call, image, thing)
                    self.assert_raises_with(BadAnswer, {"index": 0}, call, code([0]), thing)
                if not isinstance(thing, bool):
                    self.assert_raises_with(BadAnswer, {"index": 1}, call, image, [True, thing, None])
            call(image, [True, False, None, 7])
            call(answers=[], image=image)

    def test_new_each_time(self):
        image = code([coded(TELL), coded(ASK)], [1])
        free_events(image, []).clear()
        free_state(image, [])[2].clear()
        self.assertEqual(free_events(image, []), [("tell", (0, ())), ("wait",)])
        self.assertEqual(len(free_state(image, [])[2]), 1)
        self.assertFalse(has_lists_within(free_events(image, [])))

    def test_many_takes_and_doublings(self):
        words = [coded(TAKE, 1), coded(ADD, 2, 2), coded(ADD, 2, 1), coded(GO, d=-3)]
        at_, registers, _ = free_state(code(words), [])
        self.assertEqual(len(registers[2][1][1]), 2500)
        self.assertEqual(registers[2][1][1][0], (("in", 1), 2 ** 2499))

    def test_stands(self):
        run = FreeRun(program_of(code([coded(SET, 1), at("d", 3)], [at("a", 1), 5]), SumNumbers()))
        self.assertEqual(run.marked(), (("a", 0), (None,) * 8 + (("a", 1), None)))
        run.do(run.step())
        self.assertEqual(run.marked(), (("a", 2), (None, ("d", 3)) + (None,) * 6 + (("a", 1), None)))


class BesideAnother(unittest.TestCase):
    def images(self):
        for seed in range(200):
            rng = seeded(seed)
            yield rng, random_image(rng) if seed % 2 else steady_image(rng, rng.randint(4, 15))

    def test_told_a_second_way(self):
        for rng, image in self.images():
            answers = [rng.random() < 0.5 for _ in range(rng.randint(0, 12))]
            told, state, _ = naive_free(image, answers)
            self.assertEqual(free_events(image, answers), told)
            self.assertEqual(free_state(image, answers), state)
            data = [(p, k) for p, kind, words in image.pieces() for k in range(len(words)) if kind == "data"]
            self.assertEqual(list(free_state(image, answers)[2]), data)

    def test_it_holds_plain_runs_have_the_same_events(self):
        for rng, image in self.images():
            answers = [rng.random() < 0.5 for _ in range(rng.randint(0, 12))]
            told = free_events(image, answers)
            for _ in range(3):
                self.hold_beside(rng, image, told)

    def hold_beside(self, rng, image, told):
        places = random_placing(rng, image)
        worths = {("piece", p): place for p, place in places.items()}
        handed, wanted = [], []
        for event in told:
            if event == ("take",):
                number = rng.randint(-9, 9)
                worths[("in", 1 + len([one for one in wanted if one[0] == "take"]))] = number
                handed.append(number)
                wanted.append(("take", number))
            elif event[0] == "tell":
                wanted.append(("tell", worth(event[1], worths)))
            else:
                wanted.append(event)
                handed += [event[1]] if event[0] == "ask" else []
        found = played(image, places, handed)
        if told[-1][0] in ("lost", "silent"):
            self.assertEqual(found[:len(wanted) - 1], wanted[:-1])
        else:
            self.assertEqual(found, wanted)
