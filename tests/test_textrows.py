"""[71] to [75]: the rows of texts, what they bring, and what names mean."""

import unittest

from loadanywhere.assembling import assembled, listing
from loadanywhere.errors import NotAhead, NotFit, NotPlain, SameRow
from loadanywhere.sums import sum_of
from loadanywhere.words import coded
from tests.helpers import Raising, at, named


def words_of(text, p):
    return [list(words) for q, _, words in assembled(text).pieces() if q == p][0]


def lines(*rows):
    return "\n".join(rows)


def sums(*things):
    return [sum_of(thing) for thing in things]


def d_of(code, x, y, unknown, multiple=1, number=0):
    """A code word whose d is an unknown so many times and a number."""
    return (coded(code, x, y, number), ((unknown, 2048 * multiple),))


NAME_S = ("name", "s")

# Rows that bring words, x and y being r3 and r5, S being s+2, and what they bring at the offset 4 of the piece p.
ROWS = (
    ("stop", [0]), ("take r3", [coded(1, 3)]), ("tell r3", [coded(2, 3)]), ("copy r3 r5", [coded(9, 3, 5)]),
    ("add r3 r5", [coded(10, 3, 5)]), ("less r3 r5", [coded(11, 3, 5)]), ("jump r3", [coded(16, 3)]),
    ("load r3 r5 s+2", [d_of(12, 3, 5, NAME_S, 1, 2)]), ("store r3 r5 s+2", [d_of(13, 3, 5, NAME_S, 1, 2)]),
    ("load r3 r5 -7", [coded(12, 3, 5, -7)]), ("store r0 r7 0", [coded(13, 0, 7, 0)]),
    ("ask s+2", [(coded(3, 0, 0, -2), ((("piece", "p"), -2048), (NAME_S, 2048)))]),
    ("go s+2", [(coded(5, 0, 0, -2), ((("piece", "p"), -2048), (NAME_S, 2048)))]),
    ("call s+2", [(coded(14, 0, 0, -2), ((("piece", "p"), -2048), (NAME_S, 2048)))]),
    ("here r3 s+2", [(coded(8, 3, 0, -2), ((("piece", "p"), -2048), (NAME_S, 2048)))]),
    ("go p+6", [coded(5, 0, 0, 2)]), ("ask @-4", [coded(3, 0, 0, -4)]), ("here r1 @", [coded(8, 1)]),
    ("call 5", [(coded(14, 0, 0, 1), ((("piece", "p"), -2048),))]),
    ("askfar s+2", [4, named("s", 2)]), ("gofar s+2", [6, named("s", 2)]), ("callfar s+2", [15, named("s", 2)]),
    ("set r3 s+2", [coded(7, 3), named("s", 2)]), ("set r0 @", [7, at("p", 4)]), ("gofar -1", [6, -1]),
    ("word s+2", [named("s", 2)]), ("word 1 @ s 2*p", [1, at("p", 4), named("s"), (0, ((("piece", "p"), 2),))]),
    ("room 0", []), ("room 1", [0]), ("room 3", [0] * 3), ("room 1000", [0] * 1000), ("even 1", []), ("even 2", []),
)


def numbered(index):
    return "bcdefghijk"[index // 10] + "bcdefghijk"[index % 10]


class Words(unittest.TestCase, Raising):
    def test_each_row(self):
        for kind in ("code", "data"):
            for row, right in ROWS:
                text = lines(kind + " p", "word 1 2 3 4", row, "word 9")
                self.assertEqual(words_of(text, "p"), sums(1, 2, 3, 4, *right, 9), row)

    def test_even_rows(self):
        for many in range(1, 65):
            begin = 7
            filled = -begin % many
            for kind, filler in (("code", 9), ("data", 0)):
                text = lines(kind + " p", "room 7", f"even {many}", "word 5")
                self.assertEqual(words_of(text, "p"), sums(*[0] * 7, *[filler] * filled, 5))
        self.assertEqual(coded(9, 0, 0), 9)
        self.assertEqual(words_of("code p\neven 64", "p"), [])
        self.assertEqual(len(words_of("code p\nstop\neven 64", "p")), 64)

    def test_open_rows(self):
        for word, near, far in (("askany", 3, 4), ("goany", 5, 6), ("callany", 14, 15)):
            text = lines("code p", "stop", "la:", "stop", f"{word} la", f"{word} 1*lb", f"{word} lc", f"{word} p",
                         f"{word} q", f"{word} w", "lb:", "code q", "lc:", "stop")
            self.assertEqual(words_of(text, "p"), sums(
                0, 0, coded(near, 0, 0, -1), coded(near, 0, 0, 9), far, at("q"), far, at("p"), far, at("q"), far,
                named("w")))
        for wrong in ("la+0", "2*la", "-la", "5", "0*la", "@", "la+la", "la-lb+lb", "0+la", "1*la+0*lb", "1*@"):
            self.assert_raises_with(NotPlain, {"lines": (3,)}, assembled, lines("code p", "la:", "goany " + wrong))
        # Parameters and lets are put in term by term.
        text = lines("let one la", "let two one", "let neg -la", "let sum la+0", "let none 0*la", "macro m a", "goany a",
                     "goany 1*a", "end", "code p", "la:", "goany one", "goany 1*two", "goany -neg", "m la", "m two",
                     "m -neg")
        self.assertEqual(words_of(text, "p"), sums(*[coded(5, 0, 0, -k) for k in range(9)]))
        for wrong in ("goany sum", "goany none", "goany neg", "m sum", "m neg", "m -1*la", "goany two+none"):
            with self.assertRaises(NotPlain):
                assembled(text + "\n" + wrong)

    def test_numbers(self):
        for row, low, high in (("room", 0, 1000), ("even", 1, 64), ("again", 0, 1000)):
            rest = ["stop", "end"] if row == "again" else []
            for number in (low, high):
                assembled(lines("code p", f"{row} {number}", *rest))
            for number in (low - 1, high + 1, -5, 10 ** 8):
                self.assert_raises_with(NotPlain, {"lines": (2,)}, assembled, lines("code p", f"{row} {number}", *rest))
        # Parameters and lets in N, own labels called so being passed over.
        text = lines("let k 2", "let kk k+k-1", "macro m a", "k:", "room 2*a-k", "room kk", "end", "data p", "room kk-3",
                     "m k+1", "m 1", "again k", "word 5", "end")
        self.assertEqual(words_of(text, "p"), sums(*[0] * (0 + 4 + 3 + 0 + 3), 5, 5))
        for wrong in ("room la", "room 0*la", "room la-la", "room w", "room p", "even kl", "room kl-kl", "m la", "m w-w",
                      "m 0*kl", "room l", "again w", "when la", "room kp", "room m"):
            rest = ["end"] if wrong.split(" ")[0] in ("again", "when") else []
            text = lines("macro m a", "room a", "end", "let kl la", "let kp p-p", "data p", "la:", wrong, *rest)
            with self.assertRaises(NotPlain, msg=wrong) as caught:
                assembled(text)
            self.assertEqual(caught.exception.lines, (8, 2) if wrong.startswith("m ") else (8,))

    def test_lets_of_lets_beyond_count(self):
        rows = ["let a 1", "let aa w"]
        for index in range(50):
            rows.append(f"let {numbered(index)} " + ("a+a" if index == 0 else "+".join([numbered(index - 1)] * 2)))
        rows += ["let z fk+fk", "data p", "word z", "word aa"]
        self.assertEqual(words_of(lines(*rows), "p"), sums(2 ** 51, named("w")))


class Labels(unittest.TestCase, Raising):
    def test_places(self):
        text = lines("code a", "la:", "stop", "lb:", "lc:", "even 4", "ld:", "stop", "le:", "data b", "lf:", "room 0",
                     "word la lb lc ld le lf lg", "lg:")
        self.assertEqual(words_of(text, "b"), [at("a", 0), at("a", 1), at("a", 1), at("a", 4), at("a", 5), at("b", 0),
                                               at("b", 7)])

    def test_open_rows_and_labels(self):
        text = lines("code a", "goany w", "la:", "goany la", "word la")
        self.assertEqual(words_of(text, "a"), sums(6, named("w"), 5, at("a", 2)))

    def test_told(self):
        unit = assembled(lines("told lb", "code a", "la:", "even 8", "lb:", "stop", "told la"))
        self.assertEqual(list(unit.told().items()), [("lb", ("a", 0)), ("la", ("a", 0))])
        self.assertEqual(assembled("").told(), {})

    def test_text_without_signs(self):
        self.assertEqual(assembled("\n\n\ncode p\n\nstop\n\n").pieces(), [("p", "code", ((0, ()),))])
        self.assertEqual(assembled("").pieces(), [])
        self.assertEqual(assembled("data d\ncode e").pieces(), [("d", "data", ()), ("e", "code", ())])


class Names(unittest.TestCase, Raising):
    def test_what_a_name_means(self):
        # Ahead of its let a name is a wanted one; behind, it stands for what it meant there.
        text = lines("data d", "word k", "let k la+2", "word k", "let n k-m", "let m 7", "word n", "word m", "la:",
                     "word 2*k")
        self.assertEqual(words_of(text, "d"), [named("k"), at("d", 6), (6, ((("piece", "d"), 1), (("name", "m"), -1))),
                                               sum_of(7), (12, ((("piece", "d"), 2),))])
        # A name in its own let is none yet.
        self.assertEqual(words_of("data d\nlet k k+1\nword k", "d"), [named("k", 1)])

    def test_the_first_that_it_is(self):
        text = lines("let a 100", "let b 200", "macro m a", "b:", "word a b c a+b", "c:", "end", "data d", "m 5",
                     "word a b c", "c:")
        self.assertEqual(words_of(text, "d"), [sum_of(5), at("d", 0), at("d", 4), at("d", 5), sum_of(100), sum_of(200),
                                               at("d", 7)])
        # Labels of the text are known wherever they stand, pieces too; of macros nothing is known in sums.
        text = lines("macro m", "end", "data d", "word e la m", "data e", "la:", "word d")
        self.assertEqual(words_of(text, "d"), [at("e"), at("e"), named("m")])
        self.assertEqual(words_of(text, "e"), [at("d")])
        # Where it is told apart what a name is, wanted names may be words of rows.
        self.assertEqual(words_of("data d\nword stop-end", "d"),
                         [(0, ((("name", "end"), -1), (("name", "stop"), 1)))])

    def test_lets_in_macros_are_those_ahead_of_the_use(self):
        text = lines("macro m", "word k", "end", "data d", "m", "let k 3", "m")
        self.assertEqual(words_of(text, "d"), [named("k"), sum_of(3)])

    def test_own_labels(self):
        text = lines("macro m", "la:", "word la", "again 2", "lb:", "word la lb", "again 1", "la:", "word la lb", "end",
                     "end", "word lb", "end", "data d", "again 1", "lb:", "m", "word lb", "end", "lc:", "m", "word lc")
        first = [at("d", 0), at("d", 0), at("d", 1), at("d", 3), at("d", 1), at("d", 0), at("d", 5), at("d", 7),
                 at("d", 5), named("lb")]
        second = [at("d", 11), at("d", 11), at("d", 12), at("d", 14), at("d", 12), at("d", 11), at("d", 16),
                  at("d", 18), at("d", 16), named("lb")]
        self.assertEqual(words_of(text, "d"), first + [at("d", 0)] + second + [at("d", 11)])

    def test_a_when_is_no_scope(self):
        text = lines("code p", "when 1", "la:", "stop", "end", "when 0", "lb:", "stop", "other", "lc:", "stop", "end",
                     "goany la", "goany lc", "goany lb", "told la", "told lc")
        unit = assembled(text)
        self.assertEqual(unit.told(), {"la": ("p", 0), "lc": ("p", 1)})
        self.assertEqual(words_of(text, "p"), sums(0, 0, coded(5, 0, 0, -2), coded(5, 0, 0, -2), 6, named("lb")))

    def test_own_labels_called_like_lets_are_passed_over_by_open_rows(self):
        text = lines("let k la", "macro m", "k:", "word k", "goany k", "end", "code p", "la:", "stop", "m")
        self.assertEqual(words_of(text, "p"), [sum_of(0), at("p", 1), sum_of(coded(5, 0, 0, -2))])
        text = lines("let k 5", "macro m", "k:", "goany k", "end", "code p", "m")
        self.assert_raises_with(NotPlain, {"lines": (7, 4)}, assembled, text)


class Blocks(unittest.TestCase, Raising):
    def test_again(self):
        text = lines("data d", "again 0", "word 1", "end", "again 3", "word @", "again 2", "word 5", "end", "end")
        self.assertEqual(words_of(text, "d"), [at("d", 0), sum_of(5), sum_of(5), at("d", 3), sum_of(5), sum_of(5),
                                               at("d", 6), sum_of(5), sum_of(5)])
        self.assertEqual(len(words_of("data d\nagain 1000\nword 1\nend", "d")), 1000)

    def test_when(self):
        for number, right in (("0", [2]), ("1", [1]), ("-3", [1]), ("5-5", [2])):
            self.assertEqual(words_of(lines("data d", f"when {number}", "word 1", "other", "word 2", "end"), "d"),
                             sums(*right))
        self.assertEqual(words_of(lines("data d", "when 0", "word 1", "end", "when 2", "word 3", "end"), "d"), sums(3))
        self.assertEqual(words_of(lines("data d", "when 1", "other", "word 1", "end", "word 3"), "d"), sums(3))

    def test_six_deep(self):
        def nested(deep, first):
            return lines("data d", *[first] + ["again 2", "when 1", "again 1", "when 2", "again 3", "when 1"][:deep - 1],
                         "word 1", *["end"] * deep, *(["m"] if first == "macro m" else []))
        self.assertEqual(words_of(nested(6, "again 1"), "d"), sums(*[1] * 6))
        self.assertEqual(words_of(nested(6, "macro m"), "d"), sums(*[1] * 6))
        for first in ("again 1", "macro m"):
            with self.assertRaises(ValueError) as caught:
                assembled(nested(7, first))
            self.assertEqual(caught.exception.number, 8)


class Macros(unittest.TestCase, Raising):
    def test_parameters(self):
        text = lines("macro m x s", "add x r1", "load x r2 2*s+1", "set r0 s-s", "word -s 3*s", "end", "code p", "m r5 w+3")
        self.assertEqual(words_of(text, "p"), [
            sum_of(coded(10, 5, 1)), d_of(12, 5, 2, ("name", "w"), 2, 7), sum_of(7), sum_of(0),
            (-3, ((("name", "w"), -1),)), (9, ((("name", "w"), 3),))])

    def test_macros_within_macros(self):
        text = lines("macro one a b", "take a", "word b", "end", "macro two a b", "one a b", "one r2 2*b-1", "one 1*a 1*b",
                     "end", "macro three", "two r3 w", "end", "code p", "three", "again 2", "one r1 5", "end")
        self.assertEqual(words_of(text, "p"), [
            sum_of(coded(1, 3)), named("w"), sum_of(coded(1, 2)), (-1, ((("name", "w"), 2),)), sum_of(coded(1, 3)),
            named("w"), *sums(coded(1, 1), 5, coded(1, 1), 5)])
        self.assertEqual([entry[0] for entry in listing(text)],
                         [(14, 11, 6, 2), (14, 11, 6, 3), (14, 11, 7, 2), (14, 11, 7, 3), (14, 11, 8, 2),
                          (14, 11, 8, 3), (16, 2), (16, 3), (16, 2), (16, 3)])

    def test_what_is_passed_means_what_it_means_there(self):
        # The label la of the use, not the one within the macro; and a let that is called like an own label.
        text = lines("let k 9", "macro m a", "la:", "k:", "word a la k", "end", "data d", "word 0", "la:", "m la+k",
                     "again 1", "word 0", "la:", "m la", "end")
        self.assertEqual(words_of(text, "d"), [sum_of(0), at("d", 10), at("d", 1), at("d", 1), sum_of(0), at("d", 5),
                                               at("d", 5), at("d", 5)])

    def test_labels_that_are_passed(self):
        text = lines("macro in a", "a:", "word 1", "end", "macro out b", "in b", "in 1*lx", "word lx b", "end", "data d",
                     "out la", "in 1*lb", "again 2", "in lc", "word lc", "end", "word la lb lc lx", "told la", "told lb")
        self.assertEqual(words_of(text, "d"), [*sums(1, 1), at("d", 1), at("d", 0), *sums(1, 1), at("d", 5), sum_of(1),
                                               at("d", 7), at("d", 0), at("d", 4), named("lc"), named("lx")])
        self.assertEqual(assembled(text).told(), {"la": ("d", 0), "lb": ("d", 4)})
        for wrong in ("in r1", "in 5", "in 1", "in 2*la", "in -la", "in la+0", "in 0*la", "in 5+la", "in stop", "in 1*when", "out r1", "out la-la"):
            text = lines("macro in a", "a:", "end", "macro out b", "in b", "end", "data d", wrong)
            with self.assertRaises(NotFit, msg=wrong) as caught:
                assembled(text)
            self.assertEqual(caught.exception.lines, (8, 5, 2) if wrong.startswith("out") else (8, 2))
        # Lets are not put in: the label is called as it is passed.
        text = lines("macro in a", "a:", "word 1", "end", "let k la", "data d", "in k")
        self.assert_raises_with(SameRow, {"lines": (7, 2), "n": "k"}, assembled, text)
        text = lines("macro in a", "a:", "word a", "end", "macro out", "in k", "word k", "end", "let k 5", "data d", "out")
        self.assertEqual(words_of(text, "d"), [at("d", 0), at("d", 0)])

    def test_ahead(self):
        text = lines("macro one", "stop", "end", "macro two", "one", "two", "end", "code p", "one", "two")
        self.assert_raises_with(NotAhead, {"lines": (10, 6), "m": "two"}, assembled, text)
        text = lines("macro one", "two", "end", "macro two", "end", "code p", "two", "one")
        self.assert_raises_with(NotAhead, {"lines": (8, 2), "m": "two"}, assembled, text)
        text = lines("code p", "one", "macro one", "end")
        self.assert_raises_with(NotAhead, {"lines": (2,), "m": "one"}, assembled, text)
        # What is never used is never looked at so; nor is a parameter the first word of a use.
        text = lines("macro one a", "two", "end", "code p", "stop")
        self.assertEqual(words_of(text, "p"), sums(0))
        text = lines("macro two", "stop", "end", "macro one two", "two", "end", "code p", "one 5", "one r1")
        self.assertEqual(words_of(text, "p"), sums(0, 0))
        self.assert_raises_with(NotAhead, {"lines": (5, 2), "m": "b"}, assembled,
                                lines("macro one b", "b", "end", "code p", "one one"))

    def test_what_fits(self):
        head = ("macro one a", "take a", "end", "macro two a", "word a", "end", "macro three a", "two a+1", "one a", "end",
                "macro four a", "one a", "room a", "end", "code p")
        for use, right in (("one", (16,)), ("one r1 r2", (16,)), ("one 5", (16, 2)), ("one w", (16, 2)),
                           ("two r1", (16, 5)), ("three r1", (16, 8)), ("three 5", (16, 9, 2)), ("four r1", (16, 13)),
                           ("four 5", (16, 12, 2)), ("two 1 2 3", (16,))):
            self.assert_raises_with(NotFit, {"lines": right}, assembled, lines(*head, use))
        # Passed on with a multiple, or in a sum, a register does not fit: the use is told.
        for passed in ("2*a", "-a", "a+0", "a+b", "0*a"):
            text = lines("macro one b", "end", "macro two a", "one " + passed, "end", "two r1")
            self.assert_raises_with(NotFit, {"lines": (6, 4)}, assembled, text)
        for passed in ("a", "1*a"):
            assembled(lines("macro one b", "end", "macro two a", "one " + passed, "end", "two r1"))


if __name__ == "__main__":
    unittest.main()
