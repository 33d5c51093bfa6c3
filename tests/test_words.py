"""[7], [8]: code words."""

import unittest

from loadanywhere.errors import BadField, BadSum
from loadanywhere.words import coded, fields, instruction
from tests.helpers import Raising, any_objects, is_sum_at_sight

A = ("piece", "a")

TABLE = [("stop", ""), ("take", "x"), ("tell", "x"), ("ask", "d"), ("askfar", ""), ("go", "d"), ("gofar", ""),
         ("set", "x"), ("here", "xd"), ("copy", "xy"), ("add", "xy"), ("less", "xy"), ("load", "xyd"),
         ("store", "xyd"), ("call", "d"), ("callfar", ""), ("jump", "x")]


class Fields(unittest.TestCase, Raising):
    def test_bounds(self):
        self.assertEqual(coded(0), 0)
        self.assertEqual(coded(31, 7, 7, 0), 2047)
        self.assertEqual(coded(1, 2, 3, 4), 1 + 64 + 768 + 8192)
        self.assertEqual(coded(0, 0, 0, -1), -2048)
        self.assertEqual(coded(d=10 ** 40, y=1, x=1, code=5), 5 + 32 + 256 + 2048 * 10 ** 40)

    def test_back_and_forth(self):
        for code in range(32):
            for x in (0, 3, 7):
                for y in (0, 5, 7):
                    for d in (0, 1, -1, -300, 10 ** 30, -10 ** 30):
                        self.assertEqual(fields(coded(code, x, y, d)), (code, x, y, d))

    def test_bad_fields(self):
        for name, bad in (("code", 32), ("x", 8), ("y", 8)):
            for wrong in [bad, -1]:
                self.assert_raises_with(BadField, {"name": name}, coded, **{"code": 1, name: wrong})
        for thing in any_objects():
            for name in ("code", "x", "y", "d"):
                if isinstance(thing, int) and not isinstance(thing, bool):
                    continue
                self.assert_raises_with(BadField, {"name": name}, coded, **{"code": 1, name: thing})
        self.assert_raises_with(BadField, {"name": "code"}, coded, 99, 99, 99, None)
        self.assert_raises_with(BadField, {"name": "x"}, coded, 9, 99, 99, None)
        self.assert_raises_with(BadField, {"name": "y"}, coded, 9, 7, 99, None)
        self.assert_raises_with(BadField, {"name": "d"}, coded, 9, 7, 7, (0, ()))

    def test_sums(self):
        self.assertEqual(fields((coded(3, 1, 2, -4), [(A, 2048), (("in", 2), -4096)])),
                         (3, 1, 2, (-4, ((A, 1), (("in", 2), -2)))))
        self.assertEqual(fields((coded(3, 1, 2, -4), ())), (3, 1, 2, -4))
        self.assertEqual(fields((5, [(A, 0)])), (5, 0, 0, 0))
        self.assertIsNone(fields((5, [(A, 1)])))
        self.assertIsNone(fields((5, [(A, 2048), (("name", "a"), 1024)])))
        self.assertEqual(fields(word=(5, [(A, 1024), (A, 1024)])), (5, 0, 0, (0, ((A, 1),))))

    def test_no_sums(self):
        for thing in any_objects():
            if not is_sum_at_sight(thing):
                self.assert_raises_with(BadSum, {"thing": thing}, fields, thing)
                self.assert_raises_with(BadSum, {"thing": thing}, instruction, thing)


class Instructions(unittest.TestCase):
    def test_each_row_of_the_table(self):
        for code, (called, used) in enumerate(TABLE):
            self.assertEqual(instruction(coded(code)), (called, 0, 0, 0))
            whole = {name: worth for name, worth in (("x", 3), ("y", 5), ("d", -7)) if name in used}
            told = (called, whole.get("x", 0), whole.get("y", 0), whole.get("d", 0))
            self.assertEqual(instruction(coded(code, **whole)), told)
            for name in "xyd":
                if name not in used:
                    self.assertIsNone(instruction(coded(code, **{**whole, name: 1})), (called, name))
            summed = (coded(code, **whole), [(A, 2048)])
            if "d" in used:
                self.assertEqual(instruction(summed), told[:3] + ((-7, ((A, 1),)),))
            else:
                self.assertIsNone(instruction(summed))

    def test_codes_that_are_none(self):
        for code in range(17, 32):
            self.assertIsNone(instruction(coded(code)))

    def test_words_that_are_none(self):
        self.assertIsNone(instruction((3, [(A, 1)])))
        self.assertEqual(instruction(word=(3, [(A, 1), (A, -1)])), ("ask", 0, 0, 0))
