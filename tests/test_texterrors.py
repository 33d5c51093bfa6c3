"""[76]: what is wrong in texts, and which comes first."""

import unittest

from loadanywhere.assembling import assembled, draft_of, line_of, listing
from loadanywhere.errors import (
    BadFar, BadRow, BadText, NoLabel, NoPiece, NotAhead, NotFit, NotPlain, SameRow, TooFar,
)
from tests.helpers import Raising, any_objects
from tests.naive import seeded
from tests.texts import SHAPES, Naive, bent_text, random_text

ALL = (assembled, listing, lambda text: line_of(text, None, None), lambda text: draft_of(text, None))


def lines(*rows):
    return "\n".join(rows)


# Lines that are no rows wherever they stand.
WRONG = (
    " ", "  ", " stop", "stop ", "stop  stop", "stop r1", "stop 0", "take", "take r8", "take r", "take 5", "take R1",
    "take r1 r2", "take r01", "take pa", "copy r1", "copy r1 r2 r3", "copy r1 5", "load r1 r2", "load r1 5 r2",
    "load r1 r2 r3", "load r1 r2 1 2", "store 1 r2 r3", "ask", "ask r1", "ask 1 2", "ask x+", "here 5", "here x r1",
    "set r1", "set 5 r1", "go +x", "gofar x y", "askany", "goany r1", "callany x y", "word", "word r1", "word 1 r1",
    "word 1  2", "word x-", "room", "room r1", "room @", "room @-@", "room 1 2", "even", "even 1 2", "even @", "even r1",
    "jump x", "jump 5", "tell", "code", "code p q", "code P", "code 5", "code stop", "data abcdefghi", "data even",
    "told", "told a b", "told 5", "told told", "let", "let a", "let 5 a", "let a r1", "let a @", "let a @-@", "let a 1 2",
    "let let 1", "macro", "macro 5", "macro a 5", "macro a r1", "macro a b b", "macro a stop", "macro end", "again",
    "again r1", "again 1 2", "again @", "when", "when r1", "when @", "when 1 2", "end end", "other 1", "end 1", ":", "5:",
    "A:", "abcdefghi:", "stop:", "other:", "r1:", "la :", "la: stop", "la::", ":la", "a@", "@", "5", "r1", "A", "a b:",
    "m r8", "m @", "m @-1", "m 2*@", "m 5 +x", "m,", "stop\t", "\tstop", "stop\r", "# stop", "la:;", "m r1:", "-x",
    "abcdefghi", "abcdefghi 5", "tak\u00e9 r1",
)


class BadRows(unittest.TestCase, Raising):
    def test_bad_texts(self):
        for thing in any_objects() + [b"stop"]:
            if not isinstance(thing, str):
                for call in ALL:
                    self.assert_raises_with(BadText, {"thing": thing}, call, thing)

    def test_each_line(self):
        for wrong in WRONG:
            for ahead, behind in (((), ()), (("macro m", "end", "code p"), ("end",)), (("code p", "when 1"), ("end",))):
                text = lines(*ahead, wrong, *behind)
                for call in ALL[:1] if ahead else ALL:
                    self.assert_raises_with(BadRow, {"number": len(ahead) + 1}, call, text)

    def test_words_of_rows_where_a_name_is_named(self):
        self.assertEqual(len(SHAPES), 32)
        for word in SHAPES:
            for row in ("code ", "data ", "told ", "macro ", "macro m "):
                self.assert_raises_with(BadRow, {"number": 2}, assembled, lines("", row + word, "end"))
            self.assert_raises_with(BadRow, {"number": 1}, assembled, word + ":")
            self.assert_raises_with(BadRow, {"number": 1}, assembled, f"let {word} 5")
            assembled(lines("data d", "word " + word))
            if word + "s" not in SHAPES and len(word) < 8:
                assembled(lines("data d", word + "s:", "told " + word + "s", "word 5"))

    def test_registers(self):
        # Parameters of the macro around, not of another one.
        assembled(lines("macro m a", "when 1", "take a", "load a a a", "end", "end"))
        self.assert_raises_with(BadRow, {"number": 4}, assembled, lines("macro m a", "end", "macro n b", "take a", "end"))
        self.assert_raises_with(BadRow, {"number": 3}, assembled, lines("macro m a", "end", "take a"))

    def test_where_rows_cannot_stand(self):
        for row in ("code q", "data q", "told la", "let k 5", "macro n"):
            for block in ("macro m", "again 1", "when 1"):
                for inner in ((), ("when 1",)):
                    text = lines("code p", block, *inner, row, "end", *["end"] * len(inner), "la:", "stop")
                    self.assert_raises_with(BadRow, {"number": 3 + len(inner)}, assembled, text)

    def test_ends_and_others(self):
        for rows, number in ((("end",), 1), (("other",), 1), (("again 1", "other", "end"), 2), (("macro m", "other", "end"), 2),
                             (("when 1", "other", "other", "end"), 3), (("when 1", "again 1", "other", "end", "end"), 3),
                             (("when 1", "end", "other"), 3), (("when 1", "end", "end"), 3), (("when 1",), 1),
                             (("stop", "again 2", "when 1", "end"), 2), (("macro m",), 1), (("", "when 1", "other"), 2),
                             (("when 1", "when 1", "other", "other", "end", "end"), 4)):
            self.assert_raises_with(BadRow, {"number": number}, assembled, lines(*rows))
        # The least number, of a block without an end as of any other row.
        self.assert_raises_with(BadRow, {"number": 2}, assembled, lines("code p", "when 1", "stop 5", "end end"))
        self.assert_raises_with(BadRow, {"number": 3}, assembled, lines("code p", "when 1", "stop 5", "end", "again 1"))

    def test_what_is_no_row_opens_no_block(self):
        self.assert_raises_with(BadRow, {"number": 3}, assembled, lines("code p", "when 1", "again", "end"))
        self.assert_raises_with(BadRow, {"number": 2}, assembled, lines("when 1", "macro m", "end", "stop"))
        self.assert_raises_with(BadRow, {"number": 1}, assembled, lines("when 1", "again", "when 2 2"))

    def test_ahead_of_all_pieces(self):
        for row in ("stop", "la:", "room 0", "even 1", "goany la", "room w", "word 5", "ask 5", "goany 5"):
            for text, number in ((lines("", row, "code p"), 2), (lines("again 1", row, "end"), 2),
                                 (lines("macro m", row, "end", "m"), 2)):
                self.assert_raises_with(BadRow, {"number": number}, assembled, text)
        self.assert_raises_with(BadRow, {"number": 2}, assembled, lines("macro m a", "a:", "end", "m 5"))
        self.assert_raises_with(BadRow, {"number": 2}, assembled, lines("macro m a", "take a", "end", "m 5"))
        assembled(lines("macro m", "stop", "end", "let k 5", "when 0", "stop", "end", "again 0", "stop", "end"))

    def test_open_rows_in_data_pieces(self):
        for row in ("askany la", "goany 5", "callany w"):
            self.assert_raises_with(BadRow, {"number": 4}, assembled, lines("code p", "goany la", "data d", row, "la:"))
            self.assert_raises_with(BadRow, {"number": 2}, assembled, lines("macro m", row, "end", "data d", "m"))


class ErrorsOfRows(unittest.TestCase, Raising):
    def test_same_rows(self):
        rows = {"code": "code n", "data": "data n", "label": "n:", "let": "let n 5", "macro": "macro n"}
        for one in rows:
            for other in rows:
                first = [rows[one]] + ["end"] * (one == "macro")
                text = lines("code p", *first, rows[other], *["end"] * (other == "macro"))
                self.assert_raises_with(SameRow, {"lines": (2 + len(first),), "n": "n"}, assembled, text)
        self.assert_raises_with(SameRow, {"lines": (3,), "n": "la"}, assembled, lines("told la", "code p", "told la", "told la"))
        # Told rows, labels of others' own, and parameters are other kinds.
        assembled(lines("macro p p", "m:", "end", "code m", "p 5", "la:", "stop", "told la"))
        for rows, right in ((("m la", "m la"), (9, 2)), (("again 2", "m la", "end"), None),
                            (("again 1", "m la", "m la", "end"), (10, 2)), (("la:", "m la"), (9, 2)),
                            (("again 2", "la:", "end", "la:"), None), (("again 1", "la:", "when 1", "la:", "end", "end"), (11,))):
            text = lines("macro m a", "a:", "end", "code p", "macro n", "end", "let k 5", *rows)
            if right is None:
                assembled(text)
            else:
                self.assert_raises_with(SameRow, {"lines": right, "n": "la"}, assembled, text)
        self.assert_raises_with(SameRow, {"lines": (7, 3), "n": "la"}, assembled,
                                lines("macro m", "la:", "la:", "end", "code p", "stop", "m"))

    def test_lines_of_uses_and_rounds(self):
        text = lines("macro a n", "room n", "end", "macro b n", "again 2", "a n", "end", "end", "code p", "b 1", "b w")
        self.assert_raises_with(NotPlain, {"lines": (11, 6, 2)}, assembled, text)

    def test_which_goes_first(self):
        # In the order of the rows, of one row in the order in which they are told.
        rows = {"SameRow": ("p:", SameRow), "NotAhead": ("nn", NotAhead), "NotFit": ("m", NotFit),
                "NotPlain": ("room w", NotPlain)}
        for one, (first, error) in rows.items():
            for second, _ in rows.values():
                if second != first:
                    with self.assertRaises(error) as caught:
                        assembled(lines("told no", "macro m a", "end", "code p", first, second, "go 500-@+@"))
                    self.assertEqual(caught.exception.lines, (5,))
        self.assert_raises_with(NotAhead, {"lines": (3,), "m": "nn"}, assembled, lines("code p", "", "nn 5 5", "room w"))
        self.assert_raises_with(NotFit, {"lines": (5, 2)}, assembled, lines("macro m a", "room a+w", "end", "code p", "m r1"))
        self.assert_raises_with(NotFit, {"lines": (5, 2)}, assembled, lines("macro m a", "goany a+w", "end", "code p", "m r1"))
        self.assert_raises_with(BadRow, {"number": 2}, assembled, lines("macro m a", "goany a", "end", "data p", "m r1"))
        # First all lines alone, then rows, then told rows, then far, then what is too far.
        text = lines("code p", "goany 5", "stop 5")
        self.assert_raises_with(BadRow, {"number": 3}, assembled, text)
        text = lines("told no", "code p", "nn", "room w")
        self.assert_raises_with(NotAhead, {"lines": (3,), "m": "nn"}, assembled, text)
        text = lines("told no", "code p", "go @+256")
        self.assert_raises_with(NoLabel, {"lines": (1,), "n": "no"}, assembled, text, 5)
        text = lines("code p", "go @+256")
        self.assert_raises_with(BadFar, {"p": None}, assembled, text, 5)
        self.assert_raises_with(TooFar, {"lines": (2,)}, assembled, text, {"p": []})
        self.assert_raises_with(TooFar, {"lines": (2,)}, line_of, text, None, None)
        self.assert_raises_with(NoPiece, {"p": None}, draft_of, text, None)

    def test_no_label(self):
        for told, right in (("no", False), ("la", True), ("lb", False), ("lc", False), ("p", False), ("k", False),
                            ("m", False), ("oa", False), ("ob", False), ("ld", True), ("w", False), ("le", False),
                            ("lf", False), ("lg", True)):
            text = lines("macro m", "oa:", "stop", "end", "let k la", f"told {told}", "code p", "la:", "room 0", "stop",
                         "word w", "m", "again 1", "ob:", "stop", "end", "lb:", "even 64", "room 0", "code q", "ld:",
                         "even 4", "goany w", "when 0", "le:", "end", "lc:", "room 0", "data e", "lf:", "data f", "lg:", "room 1")
            if right:
                self.assertEqual(list(assembled(text).told()), [told])
                continue
            for call in (assembled, listing, lambda text: line_of(text, "p", 0), lambda text: draft_of(text, "p")):
                self.assert_raises_with(NoLabel, {"lines": (6,), "n": told}, call, text)
        self.assert_raises_with(NoLabel, {"lines": (2,), "n": "b"}, assembled,
                                lines("told a", "told b", "told c", "data d", "a:", "word 5", "b:", "c:"))

    def test_too_far(self):
        for word in ("ask ", "go ", "call ", "here r1 "):
            for kind in ("code", "data"):
                for way in (-256, 255):
                    assembled(lines(f"{kind} p", "room 300", f"{word}@{way:+}"))
                for way in (-257, 256, 10 ** 6):
                    text = lines(f"{kind} p", "room 300", f"{word}@{way:+}", word + "@+999")
                    for call in (assembled, listing, lambda text: line_of(text, "p", 0)):
                        self.assert_raises_with(TooFar, {"lines": (3,)}, call, text)
                    draft_of(text.replace("data", "code"), "p")
        # A d with unknowns is not looked at, nor are d of load and store.
        assembled(lines("code p", "go w+9999", "go 5", "load r1 r2 9999", "askfar @+9999", "code q", "go p+999"))
        self.assert_raises_with(TooFar, {"lines": (6, 2)}, assembled,
                                lines("macro m", "go p+300", "end", "code p", "room 10", "m", "go @+999"))

    def test_too_far_of_open_rows(self):
        text = lines("code p", "room 100", "goany la", "room {}", "la:", "stop", "data d", "go @+900")
        self.assert_raises_with(TooFar, {"lines": (8,)}, assembled, text.format(254))
        self.assert_raises_with(TooFar, {"lines": (3,)}, assembled, text.format(255))
        self.assert_raises_with(TooFar, {"lines": (8,)}, assembled, text.format(255), {"p": [1]})

    def test_bad_far(self):
        text = lines("code p", "la:", "goany la", "askany w", "data d", "code q", "stop")
        for thing in any_objects():
            if thing is not None and thing.__class__ is not dict:
                for call in (assembled, listing, lambda text, far: line_of(text, "p", 0, far)):
                    self.assert_raises_with(BadFar, {"p": None}, call, text, thing)
            if thing != (1, 2):
                self.assert_raises_with(BadFar, {"p": "p"}, assembled, text, {"p": thing, "x": 0})
        for key in ("d", "x", 5, None, ("p", 0), "P", True, "w", "la"):
            self.assert_raises_with(BadFar, {"p": key}, assembled, text, {"q": [], key: [], "p": 5})
        for choice in ([], [1], [2, 2], [0, 2], [1, 2, 3], [2, True], "2", {2: 2}, [2.0]):
            self.assert_raises_with(BadFar, {"p": "p"}, assembled, text, {"p": choice})
        for choice in ([2], (2,), [2, 1], (1, 2)):
            assembled(text, {"p": choice, "q": ()})
        self.assert_raises_with(BadFar, {"p": "q"}, assembled, text, {"q": [0]})

    def test_beside_the_other_way(self):
        rng = seeded(370)
        raised = 0
        for _ in range(600):
            text = random_text(rng)
            for _ in range(rng.choice([1, 1, 2])):
                text = bent_text(rng, text)
            try:
                right = Naive(text).assembled()
            except ValueError as error:
                raised += 1
                with self.assertRaises(error.__class__, msg=text) as caught:
                    assembled(text)
                self.assertEqual(vars(caught.exception), vars(error), text)
            else:
                self.assertEqual((assembled(text), listing(text)), right, text)
        self.assertGreater(raised, 200)


if __name__ == "__main__":
    unittest.main()
