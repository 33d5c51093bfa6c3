"""[62]: lots and layouts."""

import unittest

from loadanywhere.errors import BadBegin, BadLayout, BadLot, BadOrder, BadStride
from loadanywhere.holes import filled, laid_in
from loadanywhere.images import Image
from loadanywhere.lots import end_of, is_layout, lot_of, row_of
from loadanywhere.reaches import barring_ring, climb, in_reach, least_places, orders_in_reach, shows_climb
from loadanywhere.rowends import ends, nearest, shortest, shows_ends
from loadanywhere.units import Unit
from tests.helpers import Raising, any_objects, as_lists, at
from tests.lying import naive_row, orders_of, random_lot
from tests.naive import seeded

LOT = {"b": (3, 1), "a": (5, 4), "c": (1, 2)}


class LotsOf(unittest.TestCase, Raising):
    def test_images_and_units(self):
        image = Image([("m", "code", [0]), ("no", "data", []), ("d", "data", [1, 2, at("m")])], ("m", 0))
        self.assertEqual(lot_of(image), {"m": (1, 1), "no": (1, 1), "d": (3, 1)})
        self.assertEqual(list(lot_of(image)), ["m", "no", "d"])
        unit = Unit([("z", "data", [0] * 7), ("y", "code", [])])
        self.assertEqual(list(lot_of(unit, {"y": 16}).items()), [("z", (7, 1)), ("y", (1, 16))])
        self.assertEqual(lot_of(strides={"z": 2 ** 30, "y": 1}, image=unit), {"z": (7, 2 ** 30), "y": (1, 1)})
        self.assertEqual(lot_of(unit, {}), lot_of(unit, None))
        self.assertEqual(lot_of(Unit([])), {})

    def test_bad_strides(self):
        unit = Unit([("z", "data", [0]), ("y", "code", [])])
        for thing in any_objects():
            if thing.__class__ is dict or thing is None:
                continue
            self.assert_raises_with(BadStride, {"name": None}, lot_of, unit, thing)
            if thing.__class__ is int and thing == 1:
                continue
            self.assert_raises_with(BadStride, {"name": "y"}, lot_of, unit, {"z": 2, "y": thing})
        for number in (3, 0, -1, -2, 6, 2 ** 40 + 1, 2.0):
            self.assert_raises_with(BadStride, {"name": "z"}, lot_of, unit, {"z": number, "x": 1})
        self.assert_raises_with(BadStride, {"name": "x"}, lot_of, unit, {"z": 1, "x": 1})
        self.assert_raises_with(BadStride, {"name": ("z",)}, lot_of, unit, {("z",): 1, "z": 3})

    def test_is_changed_behind(self):
        unit = Unit([("z", "data", [0])])
        first = lot_of(unit)
        first["z"] = (9, 9)
        self.assertEqual(lot_of(unit), {"z": (1, 1)})


class Layouts(unittest.TestCase, Raising):
    def test_is_layout(self):
        self.assertIs(is_layout(LOT, {"a": 4, "b": 0, "c": 10}), True)
        self.assertIs(is_layout(LOT, {"c": 10, "b": 9 - 9, "a": 4}), True)
        self.assertIs(is_layout(thing={"a": 0, "b": 5, "c": 8}, lot=as_lists(LOT)), True)
        self.assertIs(is_layout({}, {}), True)
        for wrong in ({"a": 2, "b": 9, "c": 0}, {"a": 4, "b": 2, "c": 10}, {"a": 4, "b": 0, "c": 8},
                      {"a": 4, "b": 0}, {"a": 4, "b": 0, "c": 10, "d": 20}, {"a": 4, "b": -3, "c": 10},
                      {"a": 4, "b": False, "c": 10}, {"a": 4, "b": 0, "c": 9}, {"a": 4, "b": 0, "x": 10},
                      {"a": 4, "b": None, "c": 10}, {"a": 4, "b": 4, "c": 10}, {"a": -4, "b": 20, "c": 10}):
            self.assertIs(is_layout(LOT, wrong), False)
        for thing in any_objects():
            self.assertIs(is_layout(LOT, thing), False)
            self.assertIs(is_layout({}, thing), thing == {})
            self.assertIs(is_layout({"a": (1, 1)}, {"a": thing}),
                          thing.__class__ is int and thing >= 0)
        self.assertTrue(is_layout({"a": (1, 1)}, {"a": 1}))

    def test_rows(self):
        self.assertEqual(row_of(LOT, ["b", "a", "c"]), {"b": 0, "a": 4, "c": 10})
        self.assertEqual(list(row_of(LOT, ("c", "a", "b"), 3).items()), [("b", 13), ("a", 8), ("c", 4)])
        self.assertEqual(row_of(begin=10 ** 12, lot=as_lists(LOT), order=["a", "b", "c"]),
                         {"b": 10 ** 12 + 5, "a": 10 ** 12, "c": 10 ** 12 + 8})
        self.assertEqual(row_of({}, [], 5), {})
        rng = seeded(300)
        for _ in range(60):
            lot = random_lot(rng)
            begin = rng.randint(0, 20)
            for order in orders_of(lot)[:20]:
                places, end = naive_row(lot, order, begin)
                row = row_of(lot, order, begin)
                self.assertEqual((row, list(row)), (places, list(lot)))
                self.assertTrue(is_layout(lot, row))
                self.assertEqual(end_of(lot, row), end if lot else 0)

    def test_ends(self):
        self.assertEqual(end_of(LOT, {"c": 100, "b": 9, "a": 4}), 101)
        self.assertEqual(end_of(layout={"a": 16, "b": 5, "c": 0}, lot=LOT), 21)
        self.assertEqual(end_of({}, {}), 0)
        for thing in any_objects():
            self.assert_raises_with(BadLayout, {"layout": thing}, end_of, LOT, thing)
        wrong = {"a": 4, "b": 3, "c": 10}
        self.assert_raises_with(BadLayout, {"layout": wrong}, end_of, LOT, wrong)

    def test_bad_orders(self):
        for thing in any_objects():
            if thing.__class__ not in (list, tuple):
                self.assert_raises_with(BadOrder, {"index": 0}, row_of, LOT, thing)
            self.assert_raises_with(BadOrder, {"index": 1}, row_of, LOT, ["b", thing if thing != "a" else "b", "c"])
        for order, index in ((["a", "a", "b"], 1), (["a"], 1), ([], 0), (["a", "b", "c", "c"], 3), (["x"], 0),
                             (["a", "b", "c", "d"], 3), ("abc", 0), ({"a": 1}, 0)):
            self.assert_raises_with(BadOrder, {"index": index}, row_of, LOT, order)
        self.assert_raises_with(BadOrder, {"index": 0}, row_of, {}, ["a"])

    def test_bad_begins(self):
        for thing in any_objects():
            if thing.__class__ is not int or thing < 0:
                self.assert_raises_with(BadBegin, {"begin": thing}, row_of, LOT, ["a", "b", "c"], thing)


# All functions that are passed a lot, with it alone still to be passed.
ALL = (
    lambda lot: is_layout(lot, None), lambda lot: row_of(lot, None, None), lambda lot: end_of(lot, None),
    lambda lot: ends(lot, None), lambda lot: shows_ends(lot, None, None), lambda lot: shortest(lot, None),
    lambda lot: laid_in(lot, None), lambda lot: filled(lot, None), lambda lot: in_reach(lot, None, None),
    lambda lot: least_places(lot, None, None, None), lambda lot: climb(lot, None, None, None),
    lambda lot: shows_climb(lot, None, None, None, None), lambda lot: barring_ring(lot, None, None),
    lambda lot: orders_in_reach(lot, None, None), lambda lot: nearest(lot, None),
)


class BadLots(unittest.TestCase, Raising):
    def test_ahead_of_all_else(self):
        for call in ALL:
            for thing in any_objects():
                if thing.__class__ is not dict:
                    self.assert_raises_with(BadLot, {"name": None}, call, thing)
                self.assert_raises_with(BadLot, {"name": "b"}, call, {"a": [2, 4], "b": thing, "c": None}
                                        if thing != (1, 2) else {"a": (1, 1), "b": (2, 3)})
            for name in ("A", "", "abcdefghi", 1, None, ("a", 0), True):
                self.assert_raises_with(BadLot, {"name": name}, call, {"a": (1, 1), name: (1, 1), "b": 0})

    def test_pairs(self):
        for pair in ((0, 1), (1, 0), (-1, 1), (1, 3), (1, -2), (True, 1), (1, True), (1,), (1, 1, 1), (2.0, 1)):
            self.assert_raises_with(BadLot, {"name": "a"}, is_layout, {"a": pair}, {})

    def test_orders_of_errors(self):
        self.assert_raises_with(BadOrder, {"index": 2}, row_of, LOT, ["a", "b"], -1)
        self.assert_raises_with(BadBegin, {"begin": -1}, row_of, LOT, ["a", "b", "c"], -1)
        self.assert_raises_with(BadLot, {"name": "a"}, row_of, {"a": 1}, [], -1)


if __name__ == "__main__":
    unittest.main()
