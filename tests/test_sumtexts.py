"""[71]: sums as texts."""

import unittest

from loadanywhere.assembling import assembled
from loadanywhere.errors import BadSum
from loadanywhere.sums import plus, sum_of
from loadanywhere.sumtexts import sum_text
from tests.helpers import Raising, any_objects, as_lists, is_sum_at_sight
from tests.naive import seeded


def sum_by_chance(rng):
    parts = [(("piece", p), rng.choice([-2, -1, 1, 3])) for p in rng.sample(["ab", "d", "zz"], rng.randint(0, 3))]
    parts += [(("name", n), rng.choice([-7, -1, 1, 12])) for n in rng.sample(["aa", "b", "c", "e"], rng.randint(0, 3))]
    return sum_of((rng.choice([0, 0, 5, -5, 10 ** 12]), parts))


class SumTexts(unittest.TestCase, Raising):
    def test_by_hand(self):
        self.assertEqual(sum_text((4, [(("name", "loop"), -1), (("piece", "tab"), 2)])), "-loop+2*tab+4")
        self.assertEqual(sum_text((0, ())), "0")
        self.assertEqual(sum_text(0), "0")
        self.assertEqual(sum_text(one=-12), "-12")
        self.assertEqual(sum_text(10 ** 40), str(10 ** 40))
        self.assertEqual(sum_text((-1, [(("piece", "b"), 1), (("name", "a"), -3), (("name", "c"), 1)])), "-3*a+b+c-1")
        self.assertEqual(sum_text((0, [[["piece", "b"], -1]])), "-b")
        # Names of pieces and plain ones are one kind here.
        self.assertEqual(sum_text((0, [(("piece", "z"), 1), (("name", "a"), 1)])), "a+z")
        self.assertEqual(sum_text((3, [(("piece", "z"), 1), (("piece", "z"), -1)])), "3")

    def test_errors(self):
        for thing in any_objects():
            if not is_sum_at_sight(thing):
                self.assert_raises_with(BadSum, {"thing": thing}, sum_text, thing)
        for thing in ((0, ((("in", 1), 1),)), (0, ((("piece", "a"), 1), (("name", "a"), 1))),
                      (0, [[["piece", "a"], 1], [["name", "a"], -2]]), (5, ((("name", "A"), 1),))):
            self.assert_raises_with(BadSum, {"thing": thing}, sum_text, thing)
        self.assertEqual(sum_text((1, [(("in", 1), 0)])), "1")
        self.assertEqual(sum_text((1, [(("piece", "a"), 1), (("name", "a"), 0)])), "a+1")

    def test_read_back(self):
        rng = seeded(360)
        for _ in range(200):
            one = sum_by_chance(rng)
            text = sum_text(one)
            self.assertEqual(sum_text(as_lists(one)), text)
            unit = assembled("\n".join(["data ab", "data d", "data zz", "word " + text]))
            self.assertEqual(unit.word("zz", 0), one)

    def test_all_forms(self):
        for text, right in (("0", 0), ("-0", 0), ("12-20", -8), ("x", named("x")), ("-x", named("x", 0, -1)),
                            ("3*x", named("x", 0, 3)), ("0*x", 0), ("-2*x+7-x", named("x", 7, -3)), ("1*x-x", 0),
                            ("x+x+x", named("x", 0, 3)), ("5+x-6+2*x+1", named("x", 0, 3)), ("x-0*y", named("x"))):
            self.assertEqual(assembled("data d\nword " + text).word("d", 0), sum_of(right), text)
        for text in ("", "+x", "--x", "x+", "x-", "x++y", "x+-y", "-", "+", "01", "00", "-01", "x*2", "2*", "*x", "2*3",
                     "2**x", "2*-x", "(x)", "x y*", "X", "x1", "abcdefghi", "1_0", "1.0", "0x1", "\u0661", "@@", "2@",
                     "@*2", "-@-", "1*1*x", "r0", "2*r1", "x+r0"):
            with self.assertRaises(ValueError, msg=text) as caught:
                assembled("data d\nword " + text)
            self.assertEqual(caught.exception.number, 2, text)

    def test_places_of_rows(self):
        unit = assembled("data d\nword 5\nword @ 7 -@+1 3*@ @-@ 2*@-@+x 0*@")
        place = (1, ((("piece", "d"), 1),))
        self.assertEqual([unit.word("d", k) for k in range(1, 8)],
                         [place, sum_of(7), (0, ((("piece", "d"), -1),)), (3, ((("piece", "d"), 3),)), sum_of(0),
                          plus(place, named("x")), sum_of(0)])


def named(n, number=0, multiple=1):
    return (number, ((("name", n), multiple),))


if __name__ == "__main__":
    unittest.main()
