"""[19]: pieces merged and pulled apart."""

import unittest

from loadanywhere.errors import NoPiece, NoWord, Taken, Torn, UnlikeKinds
from loadanywhere.joins import merged, pulled
from loadanywhere.units import Unit, bound
from tests.helpers import Raising, any_objects, at, named


def unit():
    return Unit([
        ("x", "data", [5]), ("a", "code", [0, at("c", 1)]), ("b", "data", [at("a", 7), (1, [(("piece", "c"), 2)])]),
        ("c", "code", [at("a", 1), (0, [(("piece", "a"), 1), (("piece", "c"), -1)]), named("t")]), ("e", "code", []),
    ], {"t": ("c", 2), "s": ("a", 1), "u": ("x", 0)})


class Merged(unittest.TestCase, Raising):
    def test_several(self):
        found = merged(unit(), ["c", "a"], "m")
        self.assertEqual(found.pieces(), Unit([
            ("x", "data", [5]),
            ("m", "code", [at("m", 4), (3, ()), named("t"), 0, at("m", 1)]),
            ("b", "data", [at("m", 10), (1, [(("piece", "m"), 2)])]), ("e", "code", []),
        ]).pieces())
        self.assertEqual(list(found.told().items()), [("t", ("m", 2)), ("s", ("m", 4)), ("u", ("x", 0))])

    def test_one(self):
        self.assertEqual(merged(unit(), ("a",), "a"), unit())
        self.assertEqual(merged(p="z", some=["a"], unit=unit()).word("c", 0), at("z", 1))
        self.assertEqual([p for p, _, _ in merged(unit(), ["c", "e", "a"], "e").pieces()], ["x", "e", "b"])

    def test_errors(self):
        for thing in any_objects():
            if not isinstance(thing, (list, tuple)) or len(thing) == 0:
                self.assert_raises_with(NoPiece, {"p": None}, merged, unit(), thing, None)
            if thing != "a":
                self.assert_raises_with(NoPiece, {"p": thing}, merged, unit(), ["x", "a", thing, "x"], "x")
                self.assert_raises_with(Taken, {"name": thing}, merged, unit(), ["a", "c"], thing)
        self.assert_raises_with(NoPiece, {"p": "a"}, merged, unit(), ["a", "x", "a"], "x")
        self.assert_raises_with(NoPiece, {"p": "t"}, merged, unit(), ["a", "t"], "x")
        self.assert_raises_with(UnlikeKinds, {"p": "b"}, merged, unit(), ["a", "c", "b", "x"], "x")
        self.assert_raises_with(Taken, {"name": "x"}, merged, unit(), ["a", "c"], "x")
        self.assert_raises_with(Taken, {"name": "e"}, merged, unit(), ["a", "c"], "e")


class Pulled(unittest.TestCase, Raising):
    def setUp(self):
        self.unit = Unit([("x", "data", [at("a", 1), at("a", 2), at("a", 99), at("a", -4)]),
                          ("a", "code", [0, at("a", 3), at("x"), named("t")])],
                         {"t": ("a", 1), "s": ("a", 3), "u": ("x", 0)})

    def test_in_the_middle(self):
        found = pulled(self.unit, "a", 2, "b")
        self.assertEqual(found.pieces(), Unit([
            ("x", "data", [at("a", 1), at("b", 0), at("b", 97), at("a", -4)]), ("a", "code", [0, at("b", 1)]),
            ("b", "code", [at("x"), named("t")])]).pieces())
        self.assertEqual(list(found.told().items()), [("t", ("a", 1)), ("s", ("b", 1)), ("u", ("x", 0))])

    def test_at_the_bounds(self):
        found = pulled(q="b", k=0, p="a", unit=self.unit)
        self.assertEqual([(p, len(words)) for p, _, words in found.pieces()], [("x", 4), ("a", 0), ("b", 4)])
        self.assertEqual(found.word("x", 3), at("a", -4))
        self.assertEqual(found.word("x", 0), at("b", 1))
        found = pulled(self.unit, "a", 3, "b")
        self.assertEqual([(p, len(words)) for p, _, words in found.pieces()], [("x", 4), ("a", 3), ("b", 1)])
        self.assertEqual(pulled(self.unit, "x", 3, "b").pieces()[1], ("b", "data", (at("a", -4),)))

    def test_torn(self):
        for parts in ([(("piece", "a"), 2)], [(("piece", "a"), -1)], [(("piece", "a"), 1), (("name", "t"), 1)],
                      [(("piece", "a"), 1), (("piece", "x"), -1)]):
            one = Unit([("x", "data", [at("a"), 7, (0, parts), (0, parts)]), ("a", "code", [0, (0, parts)])])
            self.assert_raises_with(Torn, {"p": "x", "k": 2}, pulled, one, "a", 1, "b")
        one = Unit([("x", "data", [(0, [(("piece", "x"), 2)])]), ("a", "code", [0, 0, (0, [(("piece", "a"), 2)])])])
        self.assert_raises_with(Torn, {"p": "a", "k": 2}, pulled, one, "a", 1, "b")

    def test_errors_in_order(self):
        torn = Unit([("a", "code", [(0, [(("piece", "a"), 2)])]), ("x", "data", [])])
        for thing in any_objects():
            if thing != "a":
                self.assert_raises_with(NoPiece, {"p": thing}, pulled, torn, thing, None, None)
                self.assert_raises_with(Taken, {"name": thing}, pulled, torn, "a", 0, thing)
            if isinstance(thing, bool) or thing != 0:
                self.assert_raises_with(NoWord, {"p": "a", "k": thing}, pulled, torn, "a", thing, None)
        self.assert_raises_with(NoWord, {"p": "x", "k": 0}, pulled, torn, "x", 0, "x")
        self.assert_raises_with(Taken, {"name": "a"}, pulled, torn, "a", 0, "a")
        self.assert_raises_with(Taken, {"name": "x"}, pulled, torn, "a", 0, "x")
        self.assert_raises_with(Torn, {"p": "a", "k": 0}, pulled, torn, "a", 0, "b")

    def test_merged_again(self):
        for k in range(4):
            self.assertEqual(merged(pulled(self.unit, "a", k, "b"), ["a", "b"], "a"), self.unit)
            self.assertEqual(merged(pulled(bound(self.unit), "x", k, "b"), ["x", "b"], "x"), bound(self.unit))
