"""[17], [18]: units and telling."""

import itertools
import unittest

from loadanywhere.errors import (
    BadPiece, BadStart, BadTold, BadWord, BadWorths, NoName, NoPiece, NoWord, SameName, SamePiece, Taken, Unbound,
)
from loadanywhere.freetold import free_events
from loadanywhere.images import Image
from loadanywhere.plainruns import played
from loadanywhere.units import Unit, bound, image_of, renamed, together, with_names
from tests.helpers import Raising, any_objects, as_lists, as_tuples, at, is_sum_at_sight, named
from tests.naive import random_image, random_placing, seeded, steady_image, worth

PIECES = [("a", "code", [0, named("lib", 4), (1, [(("name", "tab"), 2), (("piece", "a"), -1)])]),
          ("b", "data", [at("a", 9), named("x")]), ("e", "data", [])]
TOLD = {"tab": ("b", 1), "go": ("a", 0)}


def unit():
    return Unit(PIECES, TOLD)


class Units(unittest.TestCase, Raising):
    def test_what_it_tells(self):
        one = unit()
        self.assertEqual(one.pieces()[0][2][2], (1, ((("piece", "a"), -1), (("name", "tab"), 2))))
        self.assertEqual([(p, kind, len(words)) for p, kind, words in one.pieces()],
                         [("a", "code", 3), ("b", "data", 2), ("e", "data", 0)])
        self.assertEqual(list(one.told().items()), [("tab", ("b", 1)), ("go", ("a", 0))])
        self.assertEqual(one.wanted(), ["lib", "x"])
        self.assertEqual(one.word("b", 1), named("x"))
        self.assertEqual(one.word(k=0, p="b"), at("a", 9))
        self.assertEqual(len(one), 5)
        self.assertEqual(Unit([]).pieces(), [])
        self.assertEqual(Unit(told=None, pieces=PIECES).told(), {})
        self.assertEqual(Unit([("a", "data", [named("b"), named("a"), named("ab")])]).wanted(), ["a", "ab", "b"])

    def test_lists_and_tuples(self):
        for change in (as_lists, as_tuples):
            other = Unit(change(PIECES), {name: change(address) for name, address in TOLD.items()})
            self.assertEqual(other, unit())
            self.assertIsInstance(other.told()["tab"], tuple)
            self.assertIsInstance(other.pieces()[0][2][1], tuple)

    def test_changed_behind(self):
        pieces, told = as_lists(PIECES), dict(TOLD)
        one = Unit(pieces, told)
        pieces[0][2].clear()
        told.clear()
        one.pieces().clear()
        one.told().clear()
        one.wanted().clear()
        self.assertEqual(one, unit())
        self.assertEqual(one.wanted(), ["lib", "x"])

    def test_bad_pieces(self):
        for thing in any_objects():
            if not isinstance(thing, (list, tuple)):
                self.assert_raises_with(BadPiece, {"index": 0}, Unit, thing, 5)
            self.assert_raises_with(BadPiece, {"index": 1}, Unit, [("a", "code", [at("z")]), thing], 5)
        self.assert_raises_with(BadPiece, {"index": 3}, Unit, PIECES + [("a", "code", [])])

    def test_bad_told(self):
        for thing in any_objects():
            if thing is not None and not isinstance(thing, dict):
                self.assert_raises_with(BadTold, {"name": None}, Unit, [("a", "code", [at("z")])], thing)
            if thing not in (("a", 0), ["a", 0]) or thing[1] is False:
                self.assert_raises_with(BadTold, {"name": "y"}, Unit, PIECES, {"x": ("a", 0), "y": thing, "1": None})
        for address in (("a", 3), ("a", -1), ("e", 0), ("c", 0), ("a", True), ("a",), ("a", 0, 0)):
            self.assert_raises_with(BadTold, {"name": "y"}, Unit, PIECES, {"x": ("a", 0), "y": address})
        for name in ("", "A", "abcdefghi", 1, None, ("a",), True):
            self.assert_raises_with(BadTold, {"name": name}, Unit, PIECES, {"x": ("a", 0), name: ("a", 0)})

    def test_bad_words(self):
        for word in (at("c"), (0, [(("in", 1), 1)]), (0, [(("name", "c"), 1), (("piece", "c"), 1)])):
            self.assert_raises_with(BadWord, {"p": "b", "k": 1}, Unit,
                                    [("a", "code", [at("b")]), ("b", "data", [named("b"), word, at("z")])])
            self.assert_raises_with(BadTold, {"name": 5}, Unit, [("a", "code", [word])], {5: 5})

    def test_no_word(self):
        for thing in any_objects():
            self.assert_raises_with(NoWord, {"p": thing, "k": thing}, unit().word, thing, thing)
            if isinstance(thing, bool) or thing not in (0, 1):
                self.assert_raises_with(NoWord, {"p": "b", "k": thing}, unit().word, "b", thing)
        self.assert_raises_with(NoWord, {"p": "b", "k": 2}, unit().word, "b", 2)

    def test_equality(self):
        self.assertTrue(unit() == Unit(PIECES, dict(reversed(TOLD.items()))))
        self.assertFalse(unit() != unit())
        self.assertFalse(unit() == Unit(PIECES, {"tab": ("b", 1)}))
        self.assertFalse(unit() == Unit(PIECES, {"tab": ("b", 0), "go": ("a", 0)}))
        self.assertFalse(unit() == Unit(PIECES[::-1], TOLD))
        self.assertTrue(unit() != Unit(PIECES[:2], TOLD))
        for thing in any_objects():
            self.assertFalse(unit() == thing)
            self.assertTrue(unit() != thing)


class Telling(unittest.TestCase, Raising):
    def test_bound(self):
        found = bound(unit=unit())
        self.assertEqual(found.word("a", 2), (3, ((("piece", "a"), -1), (("piece", "b"), 2))))
        self.assertEqual(found.word("a", 1), named("lib", 4))
        self.assertEqual(found.told(), TOLD)
        self.assertEqual(unit().word("a", 2)[1][1][0], ("name", "tab"))
        self.assertEqual(bound(found), found)

    def test_together(self):
        other = Unit([("c", "code", [named("tab"), 0])], {"x": ("c", 1), "lib": ("c", 0)})
        found = together(other=other, one=unit())
        self.assertEqual([p for p, _, _ in found.pieces()], ["a", "b", "e", "c"])
        self.assertEqual(list(found.told()), ["tab", "go", "x", "lib"])
        self.assertEqual(found.wanted(), [])
        self.assertEqual(found.word("c", 0), named("tab"))
        self.assertEqual(list(together(other, unit()).told()), ["x", "lib", "tab", "go"])

    def test_together_errors(self):
        other = Unit([("c", "code", []), ("e", "code", [0]), ("a", "code", [0])], {"go": ("a", 0), "tab": ("e", 0)})
        self.assert_raises_with(SamePiece, {"p": "e"}, together, unit(), other)
        self.assert_raises_with(SamePiece, {"p": "a"}, together, other, unit())
        other = Unit([("c", "code", [0])], {"x": ("c", 0), "go": ("c", 0), "tab": ("c", 0)})
        self.assert_raises_with(SameName, {"name": "go"}, together, unit(), other)
        self.assert_raises_with(SameName, {"name": "tab"}, together, other, unit())

    def test_with_names_all_at_once(self):
        found = with_names(worths={"lib": named("x", 1), "x": (2, [(("name", "lib"), 3), (("piece", "e"), 1)])},
                           unit=unit())
        self.assertEqual(found.word("a", 1), named("x", 5))
        self.assertEqual(found.word("b", 1), (2, ((("piece", "e"), 1), (("name", "lib"), 3))))
        self.assertEqual(found.told(), TOLD)
        found = with_names(unit(), {"lib": 7, "unasked": at("a"), "x": named("tab")})
        self.assertEqual(found.word("a", 1), (11, ()))
        self.assertEqual(found.wanted(), [])
        self.assertEqual(with_names(unit(), {"x": named("x", 1)}).word("b", 1), named("x", 1))

    def test_with_names_errors(self):
        for thing in any_objects():
            if not isinstance(thing, dict):
                self.assert_raises_with(BadWorths, {"key": None}, with_names, unit(), thing)
            if not is_sum_at_sight(thing):
                self.assert_raises_with(BadWorths, {"key": "x"}, with_names, unit(), {"lib": 0, "x": thing, 5: 0})
        for key in ("tab", "go", "", "X", 1, None, ("name", "x"), True):
            self.assert_raises_with(BadWorths, {"key": key}, with_names, unit(), {"x": 0, key: 0, "lib": None})
        for worth in (at("z"), (0, [(("in", 1), 1)])):
            self.assert_raises_with(BadWorths, {"key": "y"}, with_names, unit(), {"x": 0, "y": worth})

    def test_renamed(self):
        found = renamed(unit(), {"a": "b", "b": "a"}, {"tab": "lib", "lib": "tab", "x": "y"})
        self.assertEqual([p for p, _, _ in found.pieces()], ["b", "a", "e"])
        self.assertEqual(list(found.told().items()), [("lib", ("a", 1)), ("go", ("b", 0))])
        self.assertEqual(found.word("b", 1), named("tab", 4))
        self.assertEqual(found.word("b", 2), (1, ((("piece", "b"), -1), (("name", "lib"), 2))))
        self.assertEqual(found.word("a", 0), at("b", 9))
        self.assertEqual(found.wanted(), ["tab", "y"])
        self.assertEqual(renamed(names=None, pieces=None, unit=unit()), unit())
        self.assertEqual(renamed(unit(), {"a": "a"}, {"x": "x"}), unit())
        self.assertEqual(renamed(unit(), names={"x": "a"}).wanted(), ["a", "lib"])
        self.assertEqual([p for p, _, _ in renamed(unit(), {"a": "tab"}).pieces()], ["tab", "b", "e"])

    def test_renamed_errors(self):
        for thing in any_objects():
            if thing is not None and not isinstance(thing, dict):
                self.assert_raises_with(NoPiece, {"p": None}, renamed, unit(), thing, 5)
                self.assert_raises_with(NoName, {"name": None}, renamed, unit(), {"a": 5}, thing)
            if thing != "a":
                self.assert_raises_with(Taken, {"name": thing}, renamed, unit(), {"b": "bb", "e": thing})
                self.assert_raises_with(Taken, {"name": thing}, renamed, unit(), {"b": "bb"}, {"lib": thing})
        for key in ("z", 1, None, "tab", ("a",)):
            self.assert_raises_with(NoPiece, {"p": key}, renamed, unit(), {"a": 5, key: 5}, 5)
        for key in ("z", 1, None, "a", ("x",)):
            self.assert_raises_with(NoName, {"name": key}, renamed, unit(), {"a": 5}, {"x": 5, key: 5})
        self.assert_raises_with(Taken, {"name": "b"}, renamed, unit(), {"a": "b"}, {"x": 5})
        self.assert_raises_with(Taken, {"name": "f"}, renamed, unit(), {"e": "g", "a": "f", "b": "f"})
        self.assert_raises_with(Taken, {"name": "go"}, renamed, unit(), {"e": "g"}, {"x": "y", "lib": "go"})
        self.assert_raises_with(Taken, {"name": "lib"}, renamed, unit(), {}, {"tab": "lib"})

    def test_image_of(self):
        one = with_names(unit(), {"lib": 3, "x": at("b")})
        self.assertEqual(image_of(one, "go"), Image(bound(one).pieces(), ("a", 0)))
        self.assertEqual(image_of(name="go", unit=one).word("a", 2)[0], 3)
        for thing in any_objects() + ["x", "lib"]:
            self.assert_raises_with(NoName, {"name": thing}, image_of, unit(), thing)
        self.assert_raises_with(Unbound, {"name": "lib"}, image_of, unit(), "tab")
        self.assert_raises_with(BadStart, {"address": ("b", 1)}, image_of, one, "tab")

    def test_it_holds_that_order_does_not_matter(self):
        one = Unit([("a", "code", [named("s"), named("t", 1), named("u", 2), named("w", 3)])], {"s": ("a", 2)})
        other = Unit([("b", "data", [named("s", 1), named("t", 5), named("u", 7)])], {"t": ("b", 1)})
        whole = bound(with_names(together(one, other), {"u": (4, [(("name", "w"), 2)])}))
        deeds = [
            lambda pair: (together(pair[0], pair[1]), None) if pair[1] is not None else pair,
            lambda pair: tuple(None if part is None else with_names(part, {"u": (4, [(("name", "w"), 2)])})
                               for part in pair),
            lambda pair: tuple(None if part is None else bound(part) for part in pair),
        ]
        for row in itertools.permutations([0, 1, 2, 2]):
            pair = (one, other)
            for number in row:
                pair = deeds[number](pair)
            self.assertEqual(bound(pair[0]), whole)
        first = bound(renamed(bound(together(one, other)), {"a": "z"}, {"t": "s", "s": "t"}))
        second = bound(renamed(together(one, other), {"a": "z"}, {"t": "s", "s": "t"}))
        third = bound(together(renamed(one, {"a": "z"}, {"t": "s", "s": "t"}), renamed(other, None, {"t": "s", "s": "t"})))
        self.assertEqual(first, second)
        self.assertEqual(second, third)


def by_names(image):
    """A unit that has names for the places of pieces in all words, and tells them, one word behind each place."""
    told = {"n" + p: (p, len(words) - 1) for p, _, words in image.pieces()}
    pieces = []
    for p, kind, words in image.pieces():
        sums = []
        for number, parts in words:
            names = [(("name", "n" + of), multiple) for (_, of), multiple in parts]
            sums.append((number - sum(multiple * told["n" + of][1] for (_, of), multiple in parts), names))
        pieces.append((p, kind, sums))
    return Unit(pieces, {**told, "begin": image.first})


class ImagesOfUnits(unittest.TestCase):
    def test_runs_of_images_that_come_of_units(self):
        for seed in range(60):
            rng = seeded(seed)
            image = random_image(rng) if seed % 2 else steady_image(rng, 8)
            found = image_of(by_names(image), "begin")
            self.assertEqual(found, image)
            answers = [rng.random() < 0.5 for _ in range(6)]
            told = [event for event in free_events(found, answers) if event[0] in ("ask", "take", "tell")]
            places = random_placing(rng, found)
            worths = {("piece", p): place for p, place in places.items()}
            worths.update({("in", k): 3 * k for k in range(1, len(told) + 1)})
            takes = 0
            wanted, handed = [], []
            for event in told:
                takes += event[0] == "take"
                full = ("take", 3 * takes) if event[0] == "take" else event
                wanted.append(("tell", worth(event[1], worths)) if event[0] == "tell" else full)
                handed += [full[1]] if full[0] != "tell" else []
            self.assertEqual(played(found, places, handed)[:len(wanted)], wanted)
