"""[77]: texts assembled with choices, their drafts, which row brings which words."""

import unittest

from loadanywhere.assembling import assembled, draft_of, line_of, listing
from loadanywhere.drafts import Draft
from loadanywhere.errors import NoPiece, NoWord, TooFar, WordError
from loadanywhere.sums import address_of, put_in
from loadanywhere.units import bound, image_of, with_names
from loadanywhere.plainruns import played
from tests.helpers import Raising, any_objects, as_lists, at, has_lists_within
from tests.naive import seeded
from tests.texts import Naive, random_text


def lines(*rows):
    return "\n".join(rows)


TEXT = lines(
    "macro twice a", "again 2", "back:", "tell a", "goany back", "end", "end",   # 1 to 7
    "data tab", "word 1 @ la", "ask tab",                                       # 8 to 10
    "code main", "la:", "twice r3", "even 4", "goany la", "callany out",        # 11 to 16
    "lb:", "set r1 @+tab", "room 0", "goany lb", "goany main", "ask la", "told lb")


class Assembled(unittest.TestCase, Raising):
    def test_by_hand(self):
        unit = assembled(TEXT)
        self.assertEqual(unit.pieces()[0][2], ((1, ()), at("tab"), at("main"), (3 - 3 * 2048, ())))
        self.assertEqual(unit.told(), {"lb": ("main", 7)})
        self.assertEqual(unit.wanted(), ["out"])
        self.assertEqual(len(unit), 4 + 13)
        far = assembled(far={"main": far_of(TEXT, "main")}, text=TEXT)
        self.assertEqual(len(far), 4 + 19)
        self.assertNotEqual(unit, far)

    def test_beside_the_other_way(self):
        rng = seeded(380)
        with_far = 0
        for _ in range(150):
            text = random_text(rng)
            try:
                right = Naive(text).assembled()
            except WordError:
                continue
            self.assertEqual((assembled(text), listing(text)), right)
            far, numbers = {}, {}
            for p, kind, _ in right[0].pieces():
                if kind == "code" and rng.random() < 0.8:
                    draft = draft_of(text, p)
                    outs = [index for index in draft.branches() if draft.way(draft.branches(), index) is None]
                    inner = [index for index in draft.branches() if index not in outs]
                    choice = outs + rng.sample(inner, rng.randint(0, len(inner)))
                    rng.shuffle(choice)
                    far[p] = rng.choice([tuple, list])(choice)
                    numbers[p] = [draft.branches().index(index) for index in choice]
                    with_far += len(choice) > len(outs)
            right = Naive(text).assembled(numbers)
            self.assertEqual((assembled(text, far), listing(text, far)), right)
            self.check_lines(text, far, right)
        self.assertGreater(with_far, 15)

    def check_lines(self, text, far, right):
        unit, entries = right
        many = 0
        for row, p, begin, length in entries:
            many += length
            for k in {begin, begin + length - 1}:
                self.assertEqual(line_of(text, p, k, far), row)
        self.assertEqual(many, len(unit))

    def test_errors_of_line_of(self):
        self.assertEqual(line_of(far=None, k=3, p="tab", text=TEXT), (10,))
        self.assertEqual(line_of(TEXT, "main", 1), (13, 5))
        self.assertEqual(line_of(TEXT, "main", 8), (18,))
        for thing in any_objects():
            self.assert_raises_with(NoWord, {"p": thing, "k": 0}, line_of, TEXT, thing, 0)
            if thing.__class__ is not int or thing not in (0, 1):
                self.assert_raises_with(NoWord, {"p": "main", "k": thing}, line_of, TEXT, "main", thing)
        self.assert_raises_with(NoWord, {"p": "main", "k": 14}, line_of, TEXT, "main", 14)
        self.assert_raises_with(NoWord, {"p": "la", "k": 0}, line_of, TEXT, "la", 0)

    def test_listing(self):
        self.assertEqual(listing(text=TEXT, far=None), [
            ((9,), "tab", 0, 3), ((10,), "tab", 3, 1), ((13, 4), "main", 0, 1), ((13, 5), "main", 1, 1),
            ((13, 4), "main", 2, 1), ((13, 5), "main", 3, 1), ((15,), "main", 4, 1), ((16,), "main", 5, 2),
            ((18,), "main", 7, 2), ((20,), "main", 9, 1), ((21,), "main", 10, 2), ((22,), "main", 12, 1)])
        text = lines("code p", "stop", "even 1", "even 4", "room 0", "stop")
        self.assertEqual(listing(text), [((2,), "p", 0, 1), ((4,), "p", 1, 3), ((6,), "p", 4, 1)])
        self.assertEqual(listing(""), [])
        listing(text).append(0)
        self.assertEqual(len(listing(text)), 3)
        self.assertFalse(has_lists_within(listing(TEXT)))


def far_of(text, p):
    """The choice in which all open rows are far."""
    return draft_of(text, p).branches()


class Drafts(unittest.TestCase, Raising):
    def test_by_hand(self):
        draft = draft_of(p="main", text=TEXT)
        self.assertEqual(draft.rows(), [
            ("label", "la"), ("label", "za"), ("words", ((2 + 96, ()),)), ("branch", "go", "za", 0), ("label", "zb"),
            ("words", ((98, ()),)), ("branch", "go", "zb", 0), ("even", 4), ("branch", "go", "la", 0),
            ("branch", "call", "out", 0), ("label", "lb"), ("label", "ze"),
            ("words", ((39, ()), (0, ((("piece", "tab"), 1), (("name", "ze"), 1))))), ("words", ()),
            ("branch", "go", "lb", 0), ("branch", "go", "main", 0), ("label", "zf"),
            ("words", ((3, ((("name", "la"), 2048), (("name", "zf"), -2048))),))])
        self.assertIsInstance(draft, Draft)

    def test_names_that_stand_in_the_text_are_left_out(self):
        text = lines("code p", "za:", "word zb+zd @ @-@", "again 2", "own:", "goany own", "end", "word zaa zabc", "stop")
        labels = [row[1] for row in draft_of(text, "p").rows() if row[0] == "label"]
        self.assertEqual(labels, ["za", "zf", "zc", "ze"])
        # Whole names alone count; behind zz comes zaa.
        own = lines("code p", "again 30", "own:", "stop", "end", "word zab azz zzz", "word 2*zc-zd")
        labels = [row[1] for row in draft_of(own, "p").rows() if row[0] == "label"]
        self.assertEqual(labels, ["z" + letter for letter in "abefghijklmnopqrstuvwxyz"]
                         + ["zaa", "zac", "zad", "zae", "zaf", "zag"])

    def test_beside_assembled(self):
        rng = seeded(381)
        compared = 0
        for _ in range(200):
            text = random_text(rng)
            try:
                unit = assembled(text)
            except WordError:
                continue
            for p, kind, _ in unit.pieces():
                if kind != "code":
                    self.assert_raises_with(NoPiece, {"p": p}, draft_of, text, p)
                    continue
                draft = draft_of(text, p)
                free = [index for index in draft.branches() if draft.way(draft.branches(), index) is not None]
                some = rng.sample(free, rng.randint(0, len(free)))
                choice = [index for index in draft.branches() if index not in free or index in some]
                self.check_words(text, p, draft, choice)
                compared += 1
        self.assertGreater(compared, 100)

    def check_words(self, text, p, draft, choice):
        """The words of the draft are those of the piece, but for names of labels in other pieces."""
        right = assembled(text, {p: choice})
        words = draft.coded_words(p, choice)
        held = [word for q, _, piece in right.pieces() if q == p for word in piece]
        names = {q for q, _, _ in right.pieces()}
        self.assertEqual(len(words), len(held))
        for word, other in zip(words, held):
            lacking = [unknown for unknown, _ in word[1] if unknown[0] == "name" and unknown[1] not in right.wanted()]
            self.assertEqual(put_in(word, {("name", q): at(q) for q in names}) == other,
                             all(unknown[1] in names for unknown in lacking), (word, other))

    def test_whole_programs_by_drafts(self):
        # With one code piece alone the words of the draft are the words.
        text = lines("let k 3", "macro m a", "again 2", "la:", "ask la", "set r1 @-la", "goany a", "end", "end", "code p",
                     "start:", "m start", "even 8", "room k", "m w", "callany p", "here r2 start+@", "word start-p", "stop")
        draft = draft_of(text, "p")
        for choice in draft.all_fits():
            unit = assembled(text, {"p": choice})
            words = [put_in(word, {("name", "p"): at("p")}) for word in draft.coded_words("p", choice)]
            self.assertEqual(unit.pieces(), [("p", "code", tuple(words))])

    def test_no_piece(self):
        for thing in any_objects() + ["tab", "la", "mainn"]:
            self.assert_raises_with(NoPiece, {"p": thing}, draft_of, TEXT, thing)
        draft_of(lines("code p", "go @+256"), "p")


class Whole(unittest.TestCase):
    def test_a_program_runs(self):
        text = lines(
            "let cell 1", "macro adds x n", "when n", "again n", "add x r1", "end", "other", "copy x r0", "end", "end",
            "macro loop body", "back:", "take r1", "callany body", "askany back", "end",
            "code main", "start:", "set r5 tab", "loop work", "load r2 r5 cell", "tell r2", "stop",
            "work:", "load r2 r5 cell", "adds r2 3", "adds r3 0", "store r2 r5 cell", "jump r7",
            "data tab", "word 0 100", "told start")
        image = image_of(bound(with_names(assembled(text), {})), "start")
        self.assertEqual(played(image, {"main": 1000, "tab": -5}, [5, True, 7, False])[-2:], [("tell", 136), ("stop",)])
        far = image_of(assembled(text, {"main": far_of(text, "main")}), "start")
        self.assertEqual(played(far, {"main": 0, "tab": 900}, [5, True, 7, False])[-2:], [("tell", 136), ("stop",)])
        self.assertEqual(address_of(at("main", 3)), ("main", 3))

    def test_as_few_near_ones_as_grown_tells(self):
        text = lines("code p", "la:", *["room 50", "goany la", "askany lb"] * 6, "lb:", "stop")
        draft = draft_of(text, "p")
        assembled(text, {"p": draft.grown()})
        near = [index for index in draft.branches() if index not in draft.grown()]
        self.assertTrue(near)
        with self.assertRaises(TooFar):
            assembled(text, {"p": []})
        self.assertEqual(assembled(text, as_lists({"p": draft.grown()})), assembled(text, {"p": draft.least()}))

    def test_nothing_is_changed(self):
        far = {"p": [2, 1]}
        text = lines("code p", "la:", "goany la", "askany w")
        assembled(text, far)
        self.assertEqual(far, {"p": [2, 1]})


if __name__ == "__main__":
    unittest.main()
