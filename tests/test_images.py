"""[9], [10]: images and placings."""

import unittest

from loadanywhere.errors import BadPiece, BadStart, BadWord, NoPlace, NoWord, Over
from loadanywhere.images import Image, laid
from tests.helpers import Raising, any_objects, as_lists, as_tuples, at, named

PIECES = [("a", "code", [0, at("b", 1)]), ("e", "data", []), ("b", "data", [(7, [(("piece", "a"), -2)]), 5])]


class Images(unittest.TestCase, Raising):
    def test_what_it_tells(self):
        image = Image(PIECES, ("a", 1))
        self.assertEqual(image.first, ("a", 1))
        self.assertEqual(image.pieces(), [
            ("a", "code", ((0, ()), (1, ((("piece", "b"), 1),)))), ("e", "data", ()),
            ("b", "data", ((7, ((("piece", "a"), -2),)), (5, ())))])
        self.assertEqual(image.word("b", 1), (5, ()))
        self.assertEqual(image.word(k=0, p="b"), (7, ((("piece", "a"), -2),)))
        self.assertEqual(len(image), 4)

    def test_lists_and_tuples(self):
        image = Image(PIECES, ("a", 1))
        for change in (as_lists, as_tuples):
            other = Image(start=change(("a", 1)), pieces=change(PIECES))
            self.assertEqual(other, image)
            self.assertIsInstance(other.first, tuple)

    def test_changed_behind(self):
        words = [0, [1, [[["piece", "a"], 1]]]]
        pieces = [["a", "code", words]]
        image = Image(pieces, ["a", 0])
        words[1][1].clear()
        words.append(5)
        pieces.append(["b", "code", []])
        image.pieces().append(None)
        self.assertEqual(image.pieces(), [("a", "code", ((0, ()), at("a", 1)))])
        self.assertEqual(len(image), 2)
        self.assertEqual(image.word("a", 1), at("a", 1))

    def test_bad_pieces(self):
        for thing in any_objects():
            if not isinstance(thing, (list, tuple)):
                self.assert_raises_with(BadPiece, {"index": 0}, Image, thing, None)
            self.assert_raises_with(BadPiece, {"index": 1}, Image, [("a", "code", [0]), thing, None], ("a", 0))
        for bad in (("A", "code", []), ("b", "text", []), ("b", "code", None), ("b", "code", [True]), ("b", "code", {}),
                    ("b", "code"), ("b", "code", [], []), ("b", [], []), ("b", "code", [0, "x"]), ("a", "data", [])):
            self.assert_raises_with(BadPiece, {"index": 1}, Image, [("a", "code", [at("z")]), bad], None)

    def test_bad_words(self):
        for word in (at("c"), named("a"), (0, [(("in", 1), 1)]), (0, [(("piece", "a"), 1), (("name", "b"), 1)])):
            self.assert_raises_with(BadWord, {"p": "b", "k": 1}, Image,
                                    [("a", "code", [0]), ("b", "data", [at("a"), word, at("x")])], None)
        self.assertEqual(len(Image([("a", "code", [(0, [(("in", 1), 0)])])], ("a", 0))), 1)

    def test_bad_starts(self):
        for start in any_objects() + [("a", 2), ("a", -1), ("b", 0), ("e", 0), ("x", 0), ("a", False), "a0", ("a", "0"),
                                      ("a", 0, 0)]:
            if start in (("a", 0), ["a", 0]) and start[1] is not False:
                continue
            self.assert_raises_with(BadStart, {"address": start}, Image, PIECES, start)
        self.assert_raises_with(BadStart, {"address": None}, Image, [], None)

    def test_no_word(self):
        image = Image(PIECES, ("a", 1))
        for thing in any_objects():
            self.assert_raises_with(NoWord, {"p": thing, "k": thing}, image.word, thing, thing)
            if thing not in (0, 1) or isinstance(thing, bool):
                self.assert_raises_with(NoWord, {"p": "a", "k": thing}, image.word, "a", thing)
        self.assert_raises_with(NoWord, {"p": "a", "k": 2}, image.word, "a", 2)
        self.assert_raises_with(NoWord, {"p": "a", "k": -1}, image.word, "a", -1)
        self.assert_raises_with(NoWord, {"p": "e", "k": 0}, image.word, "e", 0)

    def test_equality(self):
        image = Image(PIECES, ("a", 1))
        self.assertTrue(image == Image(PIECES, ["a", 1]))
        self.assertFalse(image != Image(PIECES, ["a", 1]))
        self.assertFalse(image == Image(PIECES, ("a", 0)))
        self.assertFalse(image == Image(PIECES[::-1], ("a", 1)))
        self.assertFalse(image == Image(PIECES[:2] + [("b", "data", [0, 5])], ("a", 1)))
        for thing in any_objects() + [PIECES]:
            self.assertFalse(image == thing)
            self.assertTrue(image != thing)


class Laid(unittest.TestCase, Raising):
    def setUp(self):
        self.image = Image(PIECES, ("a", 1))

    def test_worths_ascending(self):
        found = laid(self.image, {"a": 100, "b": -5, "e": 0, "other": None})
        self.assertEqual(list(found.items()), [(-5, -193), (-4, 5), (100, 0), (101, -4)])
        found = laid(places={"e": 1, "b": 10 ** 30, "a": 0}, image=self.image)
        self.assertEqual(list(found.items()), [(0, 0), (1, 10 ** 30 + 1), (10 ** 30, 7), (10 ** 30 + 1, 5)])

    def test_side_by_side(self):
        self.assertEqual(list(laid(self.image, {"a": 0, "e": 1, "b": 2})), [0, 1, 2, 3])
        self.assertEqual(list(laid(self.image, {"a": 0, "e": 1, "b": -2})), [-2, -1, 0, 1])

    def test_no_place(self):
        for thing in any_objects():
            if not isinstance(thing, dict) or "a" not in thing:
                self.assert_raises_with(NoPlace, {"p": "a"}, laid, self.image, thing)
            if isinstance(thing, bool) or not isinstance(thing, int):
                self.assert_raises_with(NoPlace, {"p": "e"}, laid, self.image, {"a": 0, "b": 0, "e": thing})
        self.assert_raises_with(NoPlace, {"p": "b"}, laid, self.image, {"a": 0, "e": 0})

    def test_over(self):
        for place in (-1, 0, 1):
            self.assert_raises_with(Over, {"p": "a", "q": "b"}, laid, self.image, {"a": 0, "e": 0, "b": place})
        image = Image([(p, "code", [0] * 3) for p in "abcd"], ("a", 0))
        self.assert_raises_with(Over, {"p": "a", "q": "d"}, laid, image, {"a": 0, "b": 10, "c": 11, "d": 2})
        self.assert_raises_with(Over, {"p": "b", "q": "c"}, laid, image, {"a": 0, "b": 10, "c": 12, "d": 10})

    def test_new_each_time(self):
        places = {"a": 0, "e": 1, "b": 2}
        first = laid(self.image, places)
        first.clear()
        self.assertEqual(len(laid(self.image, places)), 4)
        self.assertEqual(places, {"a": 0, "e": 1, "b": 2})
