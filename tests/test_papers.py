"""[48], [50]: papers of any kind, turned and joined."""

import unittest

from loadanywhere.bases import base_of
from loadanywhere.errors import NoPaper
from loadanywhere.images import Image
from loadanywhere.papers import is_paper, paper_turned, papers_joined
from loadanywhere.partings import alike_paper
from loadanywhere.walks import alike, lost_row
from loadanywhere.words import coded
from tests.alikes import (
    ASK, GO, LOAD, SET, TAKE, TELL, found_by_chance, image, is_in_span, mutated, summing, summing_in_words,
)
from tests.helpers import Raising, any_objects, as_lists, as_tuples, at
from tests.naive import seeded

NONE = (None,) * 8


def alike_pairs(seed, many):
    rng = seeded(seed)
    while many > 0:
        one = found_by_chance(rng)
        other = mutated(rng, one)
        if lost_row(other) is None and alike(one, other):
            many -= 1
            yield one, other


class IsPaper(unittest.TestCase, Raising):
    def test_of_alike_papers(self):
        rng = seeded(70)
        for one, other in alike_pairs(71, 50):
            paper = alike_paper(one, other)
            self.assertIs(is_paper(one, other, paper), True)
            self.assertTrue(is_paper(thing=as_lists(paper), other=other, one=one))
            self.assertTrue(is_paper(one, other, as_tuples(list(reversed(paper)))))
            index = rng.randrange(len(paper))
            here, there, base = paper[index]

            def put(*entry):
                return is_paper(one, other, paper[:index] + [entry] + paper[index + 1:])

            self.assertFalse(is_paper(one, other, paper[:index] + paper[index + 1:]))
            self.assertFalse(is_paper(one, other, paper + [paper[index]]))
            for row in range(len(base)):
                self.assertFalse(put(here, there, base[:row] + base[row + 1:]))
            # The same span by other rows.
            sums = [tuple(3 * a + b for a, b in zip(base[0], more)) for more in base[1:]]
            self.assertTrue(put(here, there, [base[0], base[0], tuple(0 for _ in base[0])] + sums))
            for entry in ((here, there), (here, there, base, base), (here, there, None), (here, there, base + (base[0][1:],)),
                          (here, there, base + (base[0] + (0,),)), (here, there, base + ((True,) + base[0][1:],)),
                          (None, there, base), (here, None, base), (here, (there[0],), base) if len(there) == 2 else (1, 2, 3),
                          (here, ("silent", ()), base), ("silent", there, base)):
                self.assertFalse(put(*entry))

    def test_greater_spans(self):
        """Whatever numbers registers hold that are not told, a paper is let have them all."""
        one = image([coded(TAKE, 1), coded(TELL, 2), coded(GO, 0, 0, -2)])
        paper = alike_paper(one, one)
        greater = []
        for here, there, base in paper:
            more = [tuple(int(k == column) for k in range(21)) for column in (5, 6, 8, 13, 14, 20)]
            greater.append((here, there, base + tuple(more)))
        self.assertTrue(is_paper(one, one, greater))
        # Behind one entry alone they are not in the span behind.
        self.assertFalse(is_paper(one, one, greater[:1] + paper[1:]))
        told = tuple(int(k == 7) for k in range(21))
        both = tuple(int(k in (7, 15)) for k in range(21))
        self.assertFalse(is_paper(one, one, [(here, there, base + (told,)) for here, there, base in greater]))
        self.assertTrue(is_paper(one, one, [(here, there, base + (both,)) for here, there, base in greater]))

    def test_more_pairs(self):
        one = image([coded(TAKE, 1), coded(TELL, 1), coded(GO, 0, 0, -2), coded(0), coded(ASK, 0, 0, 0), coded(LOAD, 1, 1), 31],
                    [4])
        paper = alike_paper(one, one)
        marks = (("d", 700),) + (None,) * 8
        stop = (("c", 3), marks)
        self.assertTrue(is_paper(one, one, paper + [(stop, stop, [])]))
        self.assertTrue(is_paper(one, one, paper + [(stop, stop, [[5] * (5 + 8 + 8)])]))
        self.assertTrue(is_paper(one, one, paper + [(("silent",), ["silent"], [[5] * 5])]))
        self.assertFalse(is_paper(one, one, paper + [(stop, ("silent",), [])]))
        # The ask leads to a loss by a no.
        ask = (("c", 4), marks)
        self.assertFalse(is_paper(one, one, paper + [(ask, ask, [])]))
        take = (("c", 0), marks)
        self.assertFalse(is_paper(one, one, paper + [(take, take, [])]))
        tell = (("c", 1), marks)
        self.assertTrue(is_paper(one, one, paper + [(take, take, []), (tell, tell, [])]))
        # A tell of another number, an address told by its sum.
        other = (("c", 1), (None, ("d", 7)) + (None,) * 7)
        take_other = (("c", 0), (None, ("d", 7)) + (None,) * 7)
        self.assertTrue(is_paper(one, one, paper + [(take_other, take_other, []), (other, other, [])]))
        self.assertFalse(is_paper(one, one, paper + [(other, other, [])]))
        equal = [0, 0, 1, 0, 1] + [0] * 16
        unlike = [0, 0, 1, 0, 0] + [0] * 16
        for row, is_right in ((equal, True), (unlike, False)):
            more = [(take_other, take_other, [row]), (other, other, [row])]
            self.assertIs(is_paper(one, one, paper + more), is_right)
        self.assertFalse(is_paper(one, one, paper + [(("noisy",), ("noisy",), [])]))
        for bad in ((("c", 2), marks), (("c", 99), marks), (("c", 6), marks), (("d", 0), marks), (("c", 3), marks[1:]),
                    (("c", 3), (("z", 0),) + marks[1:])):
            self.assertFalse(is_paper(one, one, paper + [(bad, bad, [])]))

    def test_an_empty_list_of_rows(self):
        one = summing()
        stands = [(here, there) for here, there, _ in alike_paper(one, one)]
        self.assertFalse(is_paper(one, one, [(here, there, []) for here, there in stands]))

    def test_any_objects(self):
        one = summing()
        paper = alike_paper(one, one)
        for thing in any_objects():
            self.assertFalse(is_paper(one, one, thing))
            self.assertFalse(is_paper(one, one, paper + [thing]))
            self.assertFalse(is_paper(one, one, paper + [(thing, thing, [])]))
            self.assert_raises_with(NoPaper, {"number": 1}, paper_turned, one, one, thing)
            self.assert_raises_with(NoPaper, {"number": 1}, papers_joined, one, one, one, thing, thing)
            self.assert_raises_with(NoPaper, {"number": 2}, papers_joined, one, one, one, paper, thing)

    def test_the_paper_of_others_is_none(self):
        self.assertFalse(is_paper(summing(), summing_in_words(), alike_paper(summing(), summing())))
        short = Image([("c", "code", [coded(SET, 1), at("c", 1), coded(TELL, 1), coded(0)])], ("c", 0))
        here, there = (("c", 2), (None, ("c", 1)) + (None,) * 6), (("c", 3), (None, ("c", 1)) + (None,) * 6)
        rows = base_of([tuple(int(k == j) for k in range(17)) for j in range(3)], 17)
        self.assertFalse(is_paper(short, short, [(here, here, rows), (there, there, rows)]))
        self.assertTrue(is_paper(short, short, [(here, here, rows), (there, there, rows)]) == alike(short, short))


class TurnedAndJoined(unittest.TestCase, Raising):
    def test_turned(self):
        for one, other in alike_pairs(72, 40):
            paper = alike_paper(one, other)
            turned = paper_turned(one, other, as_lists(paper))
            self.assertTrue(is_paper(other, one, turned))
            self.assertEqual([(there, here) for here, there, _ in turned], [entry[:2] for entry in paper])
            self.assertEqual(paper_turned(thing=turned, other=one, one=other), paper)
            loose = [(here, there, base + base[:1]) for here, there, base in reversed(paper)]
            self.assertEqual(paper_turned(one, other, loose), list(reversed(turned)))

    def test_columns_of_a_turned_row(self):
        one, other = summing(), summing_in_words()
        paper = alike_paper(one, other)
        (here, there, base), (_, _, other_base) = paper_turned(one, other, paper)[0], paper[0]
        self.assertEqual((here, there), (paper[0][1], paper[0][0]))
        places, others = len(one.pieces()), len(other.pieces())
        held = paper[0][0][1].count(None)
        rows = [row[:1] + row[1 + places:1 + places + others] + row[1:1 + places] + row[1 + places + others + held:]
                + row[1 + places + others:1 + places + others + held] for row in other_base]
        self.assertEqual(base, base_of(rows, len(rows[0])))

    def test_joined(self):
        rng = seeded(73)
        for one, middle in alike_pairs(74, 20):
            other = mutated(rng, middle)
            if lost_row(other) is not None or not alike(middle, other):
                other = middle
            first, second = alike_paper(one, middle), alike_paper(middle, other)
            joined = papers_joined(one, middle, other, first, as_lists(second))
            self.assertTrue(is_paper(one, other, joined))
            spans = {entry[:2]: entry[2] for entry in joined}
            for here, there, base in alike_paper(one, other):
                for row in base:
                    self.assertTrue(is_in_span(spans[(here, there)], row))
            order = []
            for here, mid, _ in first:
                for also, there, _ in second:
                    if mid == also and (here, there) not in order:
                        order.append((here, there))
            self.assertEqual([entry[:2] for entry in joined], order)

    def test_joined_with_unlike_numbers_of_pieces(self):
        def with_pieces(one, many):
            more = [("e" + "abc"[k], "data", [4] * k) for k in range(many)]
            return Image(one.pieces() + more, one.first)

        for many in ((0, 1, 2), (2, 0, 1), (1, 3, 0)):
            one, middle, other = [with_pieces(one, k) for one, k in zip((summing(), summing_in_words(), summing()), many)]
            first, second = alike_paper(one, middle), alike_paper(middle, other)
            joined = papers_joined(one, middle, other, first, second)
            self.assertTrue(is_paper(one, other, joined))
            self.assertEqual(joined, alike_paper(one, other))
            back = papers_joined(middle, other, middle, second, paper_turned(middle, other, second))
            self.assertTrue(is_paper(middle, middle, back))

    def test_joined_by_hand(self):
        """The middle holds in r1 what one holds in r1 and other in r2; so the outer ones hold the same there."""
        one = image([coded(TAKE, 1), coded(TELL, 1), coded(0)])
        other = image([coded(TAKE, 2), coded(TELL, 2), coded(0)])
        joined = papers_joined(second=alike_paper(one, other), first=alike_paper(one, one), other=other, middle=one, one=one)
        tell = [entry for entry in joined if entry[0][0] == ("c", 1)][0]
        both = tuple(int(k in (6, 15)) for k in range(21))
        self.assertIn(both, tell[2])
        self.assertEqual(len(tell[2]), 6)

    def test_joined_over_several_stands_of_the_middle(self):
        """The middle keeps the truth as an address, the outer ones do not; their rows come together."""
        keeping = image([coded(ASK, 0, 0, 4), coded(SET, 1), 5, coded(GO, 0, 0, 3), coded(SET, 1), at("c"),
                         coded(TAKE, 2), coded(TELL, 2), coded(0)])
        plain = image([coded(ASK, 0, 0, 1), coded(TAKE, 2), coded(TELL, 2), coded(0)])
        self.assertTrue(alike(plain, keeping))
        first, second = alike_paper(plain, keeping), alike_paper(keeping, plain)
        self.assertEqual(len(first), 7)
        joined = papers_joined(plain, keeping, plain, first, second)
        self.assertEqual(len(joined), 4)
        self.assertTrue(is_paper(plain, plain, joined))
