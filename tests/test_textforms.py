"""[78], [79]: texts written out, and units as texts."""

import unittest

from loadanywhere.assembling import assembled, draft_of
from loadanywhere.errors import (
    BadRow, BadText, Clash, NoLabel, NotAhead, NotFit, NotPlain, SameRow, WordError,
)
from loadanywhere.textforms import rows_back, written_out
from loadanywhere.units import Unit, bound
from loadanywhere.words import coded
from tests.helpers import Raising, any_objects, at, named
from tests.naive import random_image, seeded
from tests.texts import SHAPES, Naive, bent_text, random_text


def lines(*rows):
    return "\n".join(rows)


class WrittenOut(unittest.TestCase, Raising):
    def test_by_hand(self):
        text = lines(
            "let k 2*tab-1", "let reg 4", "", "macro m a b", "in:", "take a", "again 2", "in:", "load a r2 2*b+reg",
            "askany in", "end", "when reg-4", "stop", "other", "set a 1*out+k-@-@", "end", "end", "told la", "code main",
            "m r3 w", "la:", "even reg", "room 0", "room reg-1", "word k+1-2*tab @-@ -@ 0*w", "goany tab", "callany 1*la",
            "here r1 5+la", "data tab", "m r0 w", "told lb", "lb:", "word 3")
        with self.assertRaises(BadRow):
            written_out(text)
        text = text.replace("data tab", "code tab")
        self.assertEqual(written_out(text=text), lines(
            "code main", "za:", "take r3", "zb:", "load r3 r2 2*w+4", "askany zb", "zc:", "load r3 r2 2*w+4", "askany zc",
            "set r3 out+2*tab-2*@-1", "la:", "even 4", "room 0", "room 3", "word 0 0 -@ 0", "goany tab", "callany la",
            "here r1 la+5", "code tab", "zd:", "take r0", "ze:", "load r0 r2 2*w+4", "askany ze", "zf:",
            "load r0 r2 2*w+4", "askany zf", "set r0 out+2*tab-2*@-1", "lb:", "word 3", "told la", "told lb"))
        self.assertEqual(written_out(""), "")
        self.assertEqual(written_out("\n\ndata d\n"), "data d")
        self.assertEqual(written_out("let a 5\nmacro m\nstop\nend\nwhen 0\nstop\nend\nagain 0\nstop\nend"), "")
        self.assertEqual(written_out("data d\nword b+a-3*c+1*d-@-5+2 @+0 -@-7"), "data d\nword a+b-3*c+d-@-3 @ -@-7")

    def test_names(self):
        # The first of za, zb, .. that stand nowhere as whole names, even in what does not come.
        text = lines("macro za", "again 3", "own:", "end", "end", "when 0", "stop", "zc:", "end", "let zd 5", "data d",
                     "word zf zab zzb", "za")
        with self.assertRaises(BadRow):
            written_out(text.replace("when 0\nstop", "when 0\nstop zx"))
        self.assertEqual(written_out(text), lines("data d", "word zf zab zzb", "zb:", "ze:", "zg:"))
        many = written_out(lines("data d", "again 710", "own:", "word own", "end")).split("\n")
        labels = [line[:-1] for line in many if line.endswith(":")]
        self.assertEqual(labels[:3], ["za", "zb", "zc"])
        self.assertEqual(labels[25:29], ["zz", "zaa", "zab", "zac"])
        self.assertEqual(labels[26 + 25:26 + 28], ["zaz", "zba", "zbb"])
        self.assertEqual(labels[26 + 676 - 1:26 + 676 + 2], ["zzz", "zaaa", "zaab"])
        self.assertEqual(len(set(labels)), 710)

    def test_the_same_unit_and_the_same_text_once_more(self):
        rng = seeded(400)
        same = 0
        for _ in range(250):
            text = random_text(rng)
            try:
                unit = assembled(text)
            except WordError:
                continue
            written = written_out(text)
            self.assertEqual(written_out(written), written)
            self.assertEqual(assembled(written), unit)
            self.assertEqual(list(assembled(written).told()), list(unit.told()))
            far = {}
            for p, kind, _ in unit.pieces():
                if kind == "code":
                    branches = draft_of(text, p).branches()
                    outs = [index for index in branches if draft_of(text, p).way(branches, index) is None]
                    far[p] = [index for index in branches if index in outs or rng.random() < 0.4]
            self.assertEqual(assembled(written, far), assembled(text, far))
            same += 1
        self.assertGreater(same, 150)

    def test_errors(self):
        for thing in any_objects():
            if not isinstance(thing, str):
                self.assert_raises_with(BadText, {"thing": thing}, written_out, thing)
        for text, error, told in (("code p\ntake", BadRow, {"number": 2}), ("stop", BadRow, {"number": 1}),
                                  ("code p\ncode p", SameRow, {"lines": (2,), "n": "p"}),
                                  ("m", NotAhead, {"lines": (1,), "m": "m"}),
                                  ("macro m\nend\nm 5", NotFit, {"lines": (3,)}),
                                  ("code p\nroom w", NotPlain, {"lines": (2,)}),
                                  ("code p\ngo @+999\ntold la", NoLabel, {"lines": (3,), "n": "la"})):
            self.assert_raises_with(error, told, written_out, text)
        self.assertEqual(written_out("code p\ngo @+999"), "code p\ngo @+999")
        rng = seeded(401)
        for _ in range(150):
            text = bent_text(rng, random_text(rng))
            try:
                Naive(text)
            except WordError as error:
                with self.assertRaises(error.__class__) as caught:
                    written_out(text)
                self.assertEqual(vars(caught.exception), vars(error))


class RowsBack(unittest.TestCase, Raising):
    def test_by_hand(self):
        unit = Unit([
            ("main", "code", [coded(1, 3), coded(7, 2), named("tab", 5), coded(5, 0, 0, -3), coded(12, 1, 2, -4),
                              (coded(13, 1, 2, 3), [(("name", "w"), 2048)]), (coded(3), [(("name", "w"), 4096)]),
                              coded(4), at("cells", 1), 17, (3, [(("piece", "main"), 2)]), coded(7)]),
            ("cells", "data", [coded(1), (0, [(("piece", "cells"), -1)]), 3]),
            ("no", "code", []),
        ], {"tab": ("cells", 2), "la": ("main", 3), "lb": ("main", 3)})
        self.assertEqual(rows_back(unit=unit), lines(
            "code main", "take r3", "set r2 cells+7", "la:", "lb:", "go main", "load r1 r2 -4", "store r1 r2 w+3",
            "ask main+2*w+6", "askfar cells+1", "word 17", "word 2*main+3", "word 7",
            "data cells", "word 1", "word -cells", "tab:", "word 3", "code no", "told tab", "told la", "told lb"))
        self.assertEqual(assembled(rows_back(unit)), bound(unit))
        self.assertEqual(rows_back(Unit([])), "")

    def test_each_instruction(self):
        rows = ["stop", "take r1", "tell r7", "ask p+9", "askfar w-1", "go p", "gofar p", "set r4 2*w", "here r3 p+255",
                "copy r1 r0", "add r2 r3", "less r0 r0", "load r1 r2 w", "store r6 r5 -1", "call p+8", "callfar 0", "jump r7"]
        text = lines("code p", *rows)
        self.assertEqual(rows_back(assembled(text)), text)

    def test_near_ones_in_reach(self):
        for code, row in ((3, "ask"), (5, "go"), (14, "call"), (8, "here r2")):
            x = 2 if code == 8 else 0
            for d in (-256, 255):
                unit = Unit([("p", "code", [0] * 300 + [coded(code, x, 0, d)])])
                self.assertIn(f"\n{row} p+{300 + d}", rows_back(unit))
                self.assertEqual(assembled(rows_back(unit)), unit)
            for d in (-257, 256, 10 ** 9):
                unit = Unit([("p", "code", [0] * 300 + [coded(code, x, 0, d)])])
                self.assertTrue(rows_back(unit).endswith(f"\nword {coded(code, x, 0, d)}"))
                self.assertEqual(assembled(rows_back(unit)), unit)
            # A d that is not known is in no reach and out of none.
            unit = Unit([("p", "code", [(coded(code, x, 0, 9999), [(("name", "w"), 2048)])])])
            self.assertEqual(rows_back(unit), f"code p\n{row} p+w+9999")
            self.assertEqual(assembled(rows_back(unit)), unit)

    def test_second_words(self):
        words = [coded(7, 1), coded(6), coded(0)]
        self.assertEqual(rows_back(Unit([("p", "code", words)])), "code p\nset r1 6\nstop")
        self.assertEqual(rows_back(Unit([("p", "code", words)], {"la": ("p", 1)})),
                         "code p\nword 39\nla:\ngofar 0\ntold la")
        self.assertEqual(rows_back(Unit([("p", "code", words[:1])])), "code p\nword 39")
        self.assertEqual(rows_back(Unit([("p", "code", words[:2])], {"la": ("p", 1), "lb": ("p", 0)})),
                         "code p\nlb:\nword 39\nla:\nword 6\ntold la\ntold lb")

    def test_clash(self):
        for pieces, told, right in (
                ([("a", "data", [named("a")])], {}, "a"), ([("a", "data", [1])], {"a": ("a", 0)}, "a"),
                ([("c", "data", [named("stop")])], {}, "stop"), ([("stop", "data", [1])], {}, "stop"),
                ([("z", "data", [named("y"), 1]), ("y", "data", [named("x")])], {"x": ("z", 0), "z": ("y", 0)}, "y"),
                ([("c", "data", [1])], {"word": ("c", 0), "end": ("c", 0)}, "end"),
                ([("when", "code", [named("again")])], {"told": ("when", 0)}, "again")):
            self.assert_raises_with(Clash, {"n": right}, rows_back, Unit(pieces, told))
        for word in SHAPES:
            self.assert_raises_with(Clash, {"n": word}, rows_back, Unit([(word, "code", [])]))
        # A told name that stands in words is put in, and clashes with nothing.
        self.assertEqual(rows_back(Unit([("c", "data", [named("x")])], {"x": ("c", 0)})), "data c\nx:\nword c\ntold x")

    def test_back_again(self):
        rng = seeded(402)
        instructions = 0
        for _ in range(200):
            unit = random_unit(rng)
            text = rows_back(unit)
            self.assertEqual(assembled(text), bound(unit), text)
            self.assertEqual(list(assembled(text).told()), list(unit.told()))
            self.assertEqual(rows_back(assembled(text)), text)
            instructions += sum(row.split(" ")[0] in SHAPES and not row.startswith("word") for row in text.split("\n"))
        self.assertGreater(instructions, 1500)


def random_unit(rng):
    """The pieces of an image by chance, with names in some words, and told ones."""
    pieces = []
    addresses = []
    for p, kind, words in random_image(rng).pieces():
        newer = []
        for k, (number, parts) in enumerate(words):
            addresses.append((p, k))
            if rng.random() < 0.2:
                unknown = ("name", rng.choice(["wa", "wb", "ta", "tb"]))
                newer.append((number + rng.choice([0, 600 * 2048]), list(parts) + [(unknown, rng.choice([1, -1, 2048]))]))
            else:
                newer.append((number, parts))
        pieces.append((p, kind, newer))
    told = {n: rng.choice(addresses) for n in rng.sample(["ta", "tb", "tc"], rng.randint(0, 3))}
    return Unit(pieces, told)


if __name__ == "__main__":
    unittest.main()
