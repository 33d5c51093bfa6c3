"""[38] to [41]: points, multiples, what can be moved, move tables."""

import unittest

from loadanywhere.errors import BadAnswer, BadTable, NoPiece, NoPoint, NoWhere
from loadanywhere.images import Image
from loadanywhere.movenotes import to_note
from loadanywhere.movepapers import is_move_table, sure_by
from loadanywhere.movetables import (
    can_be_moved, move_table, multiples, never_moved, points, sure_multiples, unlike_runs, unsure,
)
from loadanywhere.words import coded
from tests.helpers import Raising, any_objects, as_lists, at
from tests.moves import Brute, multiples_at
from tests.naive import naive_free, random_image, seeded, steady_image

TAKE, TELL, ASK, ASKFAR, GO, SET, COPY, ADD, LESS, LOAD, STORE = 1, 2, 3, 4, 5, 7, 9, 10, 11, 12, 13


def mixed():
    """r1 is d behind no, d less a behind yes; then r2 is taken, and it is asked again and again."""
    words = [coded(SET, 1), at("d"), coded(ASKFAR), at("c", 6), coded(GO, 0, 0, 5), 0,
             coded(SET, 3), at("c"), coded(LESS, 1, 3), coded(TAKE, 2), coded(ASK, 0, 0, 0), coded(ADD, 1, 1),
             coded(GO, 0, 0, -2)]
    return Image([("c", "code", words), ("d", "data", [5, at("c", 1)])], ("c", 0))


def random_images(seed, many):
    rng = seeded(seed)
    for number in range(many):
        if number % 2 == 0:
            yield random_image(rng)
        else:
            yield steady_image(rng, many=rng.randint(3, 9), cells=rng.randint(1, 3))


class ByHand(unittest.TestCase, Raising):
    def test_points(self):
        self.assertEqual(points(mixed()), [("c", 2), ("c", 9), ("c", 10)])
        self.assertEqual(points(Image([("c", "code", [coded(0)])], ("c", 0))), [])
        # A run that tells on and on comes to no point behind, however long it takes.
        words = [coded(TELL), coded(GO, 0, 0, -1), coded(TAKE)]
        self.assertEqual(points(Image([("c", "code", words)], ("c", 0))), [])
        # Ten thousand instructions and more lie ahead of this point.
        many = [coded(COPY)] * 10100 + [coded(ASK, 0, 0, 1), coded(0)]
        self.assertEqual(points(Image([("c", "code", many)], ("c", 0))), [("c", 10100)])

    def test_multiples(self):
        image = mixed()
        found = multiples(image, [False])
        self.assertEqual(list(found), [("register", n) for n in range(8)] + [("word", "d", 0), ("word", "d", 1)])
        self.assertEqual(found[("register", 1)], (("d", 1),))
        self.assertEqual(found[("register", 2)], ())
        self.assertEqual(found[("word", "d", 1)], (("c", 1),))
        self.assertEqual(multiples(answers=(True, False), image=image)[("register", 1)], (("c", -2), ("d", 2)))
        self.assertEqual(multiples(image, [])[("register", 1)], (("d", 1),))
        silent = Image([("c", "code", [coded(SET, 1), at("c"), coded(ADD, 1, 1), coded(GO, 0, 0, -1)])], ("c", 0))
        self.assertEqual(multiples(silent, [])[("register", 1)], (("c", 2 ** 5000), ))
        self.assertEqual(multiples(silent, [True, None])[("register", 0)], ())

    def test_multiples_errors(self):
        for thing in any_objects():
            if not isinstance(thing, (list, tuple)):
                self.assert_raises_with(BadAnswer, {"index": 0}, multiples, mixed(), thing)
            if not isinstance(thing, bool):
                self.assert_raises_with(BadAnswer, {"index": 1}, multiples, mixed(), [True, thing])

    def test_sure(self):
        image = mixed()
        sure = sure_multiples(image, ["c", 9])
        self.assertEqual(sure[("register", 1)], {"c": None, "d": 1})
        self.assertEqual(list(sure[("register", 1)]), ["c", "d"])
        self.assertEqual(sure[("register", 3)], {"c": None, "d": 0})
        self.assertEqual(sure_multiples(at=("c", 10), image=image)[("register", 1)], {"c": None, "d": None})
        self.assertEqual(sure_multiples(image, ("c", 2))[("register", 1)], {"c": 0, "d": 1})
        self.assertEqual(can_be_moved(image, ("c", 2)), ("c", "d"))
        self.assertEqual(can_be_moved(image, ["c", 9]), ("d",))
        self.assertEqual(can_be_moved(at=("c", 10), image=image), ())
        self.assertEqual(unsure(image, ("c", 10), "c"), [("register", 1), ("register", 3)])
        self.assertEqual(unsure(p="d", at=("c", 10), image=image), [("register", 1)])
        self.assertEqual(unsure(image, ("c", 2), "c"), [])
        self.assertEqual(never_moved(image), ())

    def test_unlike_runs(self):
        image = mixed()
        self.assertEqual(unlike_runs(image, ("c", 9), ("register", 1), "c"), ((False,), (True,)))
        self.assertEqual(unlike_runs(image, ("c", 10), ["register", 1], "d"), ((False,), (False, False)))
        self.assertEqual(unlike_runs(p="d", where=("register", 1), at=("c", 9), image=image), None)
        self.assertIsNone(unlike_runs(image, ("c", 10), ["word", "d", 1], "c"))

    def test_an_address_beside_a_number(self):
        words = [coded(SET, 1), at("d"), coded(ASK, 0, 0, 2), coded(ADD, 1, 0), coded(TAKE), coded(0)]
        image = Image([("c", "code", words), ("d", "data", [0])], ("c", 0))
        self.assertEqual(sure_multiples(image, ("c", 4))[("register", 1)], {"c": 0, "d": 1})
        self.assertEqual(to_note(image), [])

    def test_the_same_row_twice(self):
        words = [coded(TAKE, 1), coded(SET, 2), at("c", 5), coded(ADD, 3, 2), coded(GO, 0, 0, -4)]
        image = Image([("c", "code", words), ("d", "data", [0])], ("c", 0))
        self.assertEqual(unlike_runs(image, ("c", 0), ("register", 3), "c"), ((), ()))
        self.assertIsNone(unlike_runs(image, ("c", 0), ("register", 3), "d"))
        self.assertEqual(never_moved(image), ("c",))
        self.assertEqual(can_be_moved(image, ("c", 0)), ("d",))

    def test_runs_that_get_lost_go_as_far_as_they_go(self):
        words = [coded(ASK, 0, 0, 2), coded(SET, 1), at("c", 1), coded(TAKE), coded(LOAD, 1, 0), coded(ASK)]
        image = Image([("c", "code", words)], ("c", 0))
        self.assertEqual(points(image), [("c", 0), ("c", 3)])
        words[0] = coded(ASK, 0, 0, 3)
        image = Image([("c", "code", words)], ("c", 0))
        self.assertEqual(unlike_runs(image, ("c", 3), ("register", 1), "c"), ((False,), (True,)))

    def test_errors_in_their_order(self):
        image = mixed()
        for thing in any_objects() + [("c", 3), ("c", 99), ("d", 0), ("c", True)]:
            for call, more in ((sure_multiples, []), (can_be_moved, []), (unsure, [None]), (unlike_runs, [None, None])):
                self.assert_raises_with(NoPoint, {"point": thing}, call, image, thing, *more)
            if thing != "a":
                self.assert_raises_with(NoPiece, {"p": thing}, unsure, image, ("c", 9), thing)
                self.assert_raises_with(NoPiece, {"p": thing}, unlike_runs, image, ("c", 9), ("register", 1), thing)
            self.assert_raises_with(NoWhere, {"where": thing}, unlike_runs, image, ("c", 9), thing, None)
        for thing in (("register", 8), ("register", -1), ("register", True), ("register",), ("word", "d"), ("word", "d", 2),
                      ("word", "c", 0), ("word", "d", -1), ("word", "d", False), ("register", 1, 1), ("word", 1),
                      (["register"], 1), "register"):
            self.assert_raises_with(NoWhere, {"where": thing}, unlike_runs, image, ("c", 9), thing, "c")

    def test_changed_behind(self):
        image = mixed()
        sure_multiples(image, ("c", 9)).clear()
        points(image).clear()
        move_table(image).clear()
        sure_multiples(image, ("c", 9))[("register", 1)].clear()
        self.assertEqual(len(sure_multiples(image, ("c", 9))[("register", 1)]), 2)
        self.assertEqual(len(move_table(image)), len(move_table(image)))


class BesideAllRows(unittest.TestCase, Raising):
    def check(self, image, brute):
        seen = brute.points()
        told = points(image)
        self.assertEqual(told[:len(seen)], seen)
        names = [p for p, _, _ in image.pieces()]
        never = dict.fromkeys(names)
        longest = len(brute.rest[0]) if brute.rest else 10 ** 9
        for point in told:
            sure = sure_multiples(image, point)
            here = [(row, rows) for row, at_, rows in brute.waits if at_ == point]
            for where in sure:
                for p in names:
                    self.check_pair(image, point, where, p, sure[where][p], here, longest)
            moved = tuple(p for p in names if all(sure[where][p] is not None for where in sure))
            self.assertEqual(can_be_moved(image, point), moved)
            for p in names:
                self.assertEqual(unsure(image, point, p), [where for where in sure if sure[where][p] is None])
            for p in moved:
                never.pop(p, None)
        self.assertEqual(never_moved(image), tuple(never))

    def check_pair(self, image, point, where, p, sure, here, longest):
        if not here:
            return
        first = here[0][1][where][p]
        others = [row for row, rows in here if rows[where][p] != first]
        if others:
            self.assertIsNone(sure)
            self.assertEqual(unlike_runs(image, point, where, p), (here[0][0], others[0]))
        elif sure is None:
            self.assertGreaterEqual(len(unlike_runs(image, point, where, p)[1]), longest)
        else:
            self.assertEqual(sure, first)

    def test_images_by_chance(self):
        for image in random_images(40, 120):
            self.check(image, Brute(image, 5))

    def test_multiples(self):
        rng = seeded(41)
        for image in random_images(42, 60):
            row = [rng.random() < 0.5 for _ in range(4)]
            _, (_, registers, data), _ = naive_free(image, row)
            expected = multiples_at(image, registers, data)
            found = multiples(image, row)
            self.assertEqual({where: dict(parts) for where, parts in found.items()},
                             {where: {p: one for p, one in parts.items() if one} for where, parts in expected.items()})
            for parts in found.values():
                names = [p for p, _, _ in image.pieces()]
                self.assertEqual([p for p, _ in parts], [p for p in names if p in dict(parts)])


class Tables(unittest.TestCase, Raising):
    def test_by_hand(self):
        table = move_table(mixed())
        self.assertEqual([stand[0] for stand, _, _ in table], [("c", k) for k in (2, 9, 10, 9, 10, 10)])
        stand, row, rows = table[0]
        self.assertEqual(stand[1], (None, ("d", 0)) + (None,) * 7 + (("c", 1),))
        self.assertEqual(row, (0, 0, 0, 1) + (0,) * 14 + (1, 0))
        self.assertEqual(rows, ())
        self.assertEqual(sorted([len(rows) for _, _, rows in table]), [0, 0, 0, 0, 1, 1])

    def test_by_chance(self):
        rng = seeded(43)
        for image in random_images(44, 160):
            table = move_table(image)
            self.assertTrue(is_move_table(image, table))
            self.assertTrue(is_move_table(image, as_lists(table)))
            for point in points(image):
                self.assertEqual(sure_by(image, table, point), sure_multiples(image, point))
            for entry in table:
                self.check_bent(rng, image, table, table.index(entry))

    def check_bent(self, rng, image, table, index):
        stand, row, rows = table[index]

        def put(*entry):
            return table[:index] + [entry] + table[index + 1:]

        self.assertFalse(is_move_table(image, table[:index] + table[index + 1:]))
        self.assertFalse(is_move_table(image, table + [table[index]]))
        column = rng.randrange(len(row))
        bent = row[:column] + (row[column] + 1,) + row[column + 1:]
        if not rows and index == 0:
            self.assertFalse(is_move_table(image, put(stand, bent, rows)))
        if rows:
            # Another row of the same ones, and multiples of them, hold the same.
            other = tuple(one + 3 * more for one, more in zip(row, rows[0]))
            self.assertTrue(is_move_table(image, put(stand, other, rows + (rows[0],))))
            twice = tuple(tuple(5 * one for one in more) for more in rows)
            self.assertTrue(is_move_table(image, put(stand, row, twice)))
            self.assertFalse(is_move_table(image, put(stand, row, rows[1:])))
        for entry in ((stand, row), (stand, row, rows, rows), (stand, row[1:], rows), (stand, row, rows + (row[1:],)),
                      (stand, row[:-1] + (True,), rows), (stand, row, None), (None, row, rows), (stand, None, rows),
                      ((stand[0], stand[1][1:]), row, rows), ((stand[0], stand[1] + (None,)), row, rows),
                      ((stand[0],), row, rows), (("zz", 0), row, rows), ((("zz", 0), stand[1]), row, rows),
                      ((stand[0], (("zz", 0),) + stand[1][1:]), row, rows), ((stand[0], (7,) + stand[1][1:]), row, rows)):
            self.assertFalse(is_move_table(image, put(*entry)))
        names = len(image.pieces())
        for where, mark in enumerate(stand[1]):
            if mark is not None:
                bent = list(row)
                bent[where * names] += 1
                self.assertFalse(is_move_table(image, put(stand, bent, rows)))
                more = [0] * len(row)
                more[where * names] = 1
                self.assertFalse(is_move_table(image, put(stand, row, rows + (tuple(more),))))

    def test_stands_that_no_run_comes_to(self):
        words = [coded(TAKE, 1), coded(ADD, 1, 1), coded(GO, 0, 0, -2), coded(ASK, 0, 0, 0), coded(0), coded(TAKE, 1, 1), 7]
        image = Image([("c", "code", words)], ("c", 0))
        table = move_table(image)
        nothing = (None,) * 8
        self.assertTrue(is_move_table(image, table + [((("c", 3), nothing), (1,) * 8, ((1,) + (0,) * 7,))]))
        self.assertTrue(is_move_table(image, table + [((("c", 3), (("c", 77),) + nothing[1:]), (1,) * 8, ())]))
        self.assertFalse(is_move_table(image, table + [((("c", 3), (("c", 77),) + nothing[1:]), (2,) * 8, ())]))
        for k in (1, 2, 4, 5, 6, 7, -1):
            self.assertFalse(is_move_table(image, table + [((("c", k), nothing), (0,) * 8, ())]))
        # Twice r1 is what comes of it, so 1 is held behind by no row, 0 by itself.
        self.assertTrue(is_move_table(image, [((("c", 0), nothing), (0,) * 8, ())]))
        shifted = (5,) + (0,) * 7
        self.assertFalse(is_move_table(image, [((("c", 0), nothing), shifted, ())]))
        self.assertTrue(is_move_table(image, [((("c", 0), nothing), shifted, (shifted,))]))
        self.assertEqual(sure_by(image, [((("c", 0), nothing), shifted, (shifted,))], ("c", 0))[("register", 0)], {"c": None})

    def test_addresses_at_stands_to_which_nothing_leads(self):
        words = [coded(TAKE, 1), coded(0), coded(TAKE, 2), coded(0)]
        image = Image([("c", "code", words)], ("c", 0))
        stand = (("c", 2), (("c", 77),) + (None,) * 7)
        for row, rows, is_right in (((1,) + (5,) * 7, ((0,) + (3,) * 7,), True), ((0,) * 8, (), False), ((2,) + (0,) * 7, (), False),
                                    ((1,) + (0,) * 7, ((1,) + (0,) * 7,), False)):
            self.assertIs(is_move_table(image, move_table(image) + [(stand, row, rows)]), is_right)

    def test_a_run_that_never_waits(self):
        image = Image([("c", "code", [coded(TELL), coded(GO, 0, 0, -1)])], ("c", 0))
        self.assertEqual(move_table(image), [])
        self.assertTrue(is_move_table(image, ()))
        words = [coded(TAKE), coded(TELL), coded(GO, 0, 0, -1)]
        image = Image([("c", "code", words)], ("c", 0))
        self.assertEqual(len(move_table(image)), 1)
        self.assertTrue(is_move_table(image, move_table(image)))
        self.assertFalse(is_move_table(image, []))

    def test_any_objects(self):
        image = mixed()
        table = move_table(image)
        for thing in any_objects():
            self.assertFalse(is_move_table(image, thing))
            self.assertFalse(is_move_table(image, table + [thing]))
            self.assert_raises_with(BadTable, {}, sure_by, image, thing, None)
            self.assert_raises_with(NoPoint, {"point": thing}, sure_by, image, table, thing)
        self.assert_raises_with(NoPoint, {"point": ("c", 3)}, sure_by, image, table, ("c", 3))
        self.assertEqual(sure_by(at=["c", 9], table=tuple(table), image=image), sure_multiples(image, ("c", 9)))

