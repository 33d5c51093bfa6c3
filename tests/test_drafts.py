"""[55] to [61]: drafts."""

import itertools
import unittest

from loadanywhere.drafts import Draft
from loadanywhere.errors import BadAt, BadChoice, BadDraft, HasEven, NoBranch, NoName, TooLong
from loadanywhere.images import Image
from loadanywhere.walks import alike
from loadanywhere.words import coded
from tests.alikes import TAKE, TELL
from tests.helpers import Raising, any_objects, as_lists, at, has_lists_within, named
from tests.naive import seeded


def words(many):
    return ("words", [7] * many)


def go(n, more=0, called="go"):
    return ("branch", called, n, more)


def label(n):
    return ("label", n)


def even(n):
    return ("even", n)


class Naive:
    """A draft, word by word."""

    def __init__(self, rows):
        self.rows = rows
        labels = [row[1] for row in rows if row[0] == "label"]
        self.branches = [index for index, row in enumerate(rows) if row[0] == "branch"]
        self.outs = [index for index in self.branches if rows[index][2] not in labels]
        self.free = [index for index in self.branches if index not in self.outs]

    def choices(self):
        found = []
        for many in range(len(self.free) + 1):
            found += [tuple(sorted(self.outs + list(some))) for some in itertools.combinations(self.free, many)]
        return sorted(found, key=lambda choice: (len(choice), choice))

    def offsets(self, far):
        found = []
        offset = 0
        for index, row in enumerate(self.rows):
            found.append(offset)
            if row[0] == "words":
                offset += len(row[1])
            elif row[0] == "branch":
                offset += 2 if index in far else 1
            elif row[0] == "even":
                while offset % row[1]:
                    offset += 1
        return found + [offset]

    def too_long(self, far):
        offsets = self.offsets(far)
        aims = {row[1]: offsets[index] for index, row in enumerate(self.rows) if row[0] == "label"}
        return [index for index in self.free if index not in far
                and not -256 <= aims[self.rows[index][2]] - offsets[index] <= 255]

    def grown(self):
        far = list(self.outs)
        while self.too_long(far):
            far += self.too_long(far)
        return tuple(sorted(far))


def random_rows(rng, has_even):
    labels = ["la", "lb", "lc"][:rng.randint(1, 3)]
    rows = [label(n) for n in labels]
    for _ in range(rng.randint(0, 5)):
        n = rng.choice(labels + ["out"])
        rows.append(go(n, rng.randint(-3, 3) if n == "out" else 0, rng.choice(["ask", "go", "call"])))
    for _ in range(rng.randint(1, 5)):
        rows.append(words(rng.choice([1, 2, 60, 100, 125, 126, 127, 128, 250, 251, 252, 253, 254, 255, 256])))
    for _ in range(rng.randint(1, 3) if has_even else 0):
        rows.append(even(rng.choice([2, 3, 4, 8, 16, 64])))
    rng.shuffle(rows)
    return rows


class Rows(unittest.TestCase, Raising):
    def test_what_it_tells(self):
        rows = [label("a"), ["words", [5, named("x", 1), (0, [(("in", 2), 1)])]], even(64), go("out", -3), ("words", ())]
        draft = Draft(rows=rows)
        self.assertEqual(draft.rows(), [("label", "a"), ("words", ((5, ()), named("x", 1), (0, ((("in", 2), 1),)))),
                                        ("even", 64), ("branch", "go", "out", -3), ("words", ())])
        self.assertEqual(len(draft), 5)
        self.assertEqual(draft.branches(), (3,))
        self.assertEqual(draft, Draft(tuple(as_lists(rows))))
        self.assertFalse(has_lists_within(draft.rows()))
        rows[1][1].clear()
        draft.rows().clear()
        self.assertEqual(len(draft.rows()[1][1]), 3)
        self.assertEqual((len(Draft([])), Draft([]).branches()), (0, ()))

    def test_each_thing_that_is_no_row(self):
        good = label("a")
        for thing in any_objects() + [
                ("words",), ("words", 1), ("words", [None]), ("words", [True]), ("words", [], []), ("word", []),
                ("label", "A"), ("label", ""), ("label", None), ("label",), ("label", "b", 0), ("even", 0), ("even", 65),
                ("even", True), ("even", "2"), ("even",), ("branch", "go", "b"), ("branch", "jump", "b", 0),
                ("branch", "gofar", "b", 0), ("branch", "go", "B", 0), ("branch", "go", "b", True),
                ("branch", "go", "b", None), ("branch", "go", "b", 0, 0), ("branch", ["go"], "b", 0), ("branch", None, "b", 0),
                (["label"], "b"), ("label", "a"), ("branch", "go", "a", 1), ("branch", "go", "later", -1), ("even", 2, 0, 0)]:
            self.assert_raises_with(BadDraft, {"index": 1}, Draft, [good, thing, label("later"), None])
            if not isinstance(thing, (list, tuple)):
                self.assert_raises_with(BadDraft, {"index": 0}, Draft, thing)
        # The label of a row that stood before is a label all the same, that of one that is none is not.
        self.assert_raises_with(BadDraft, {"index": 0}, Draft, [go("a", 1), label("a"), label("a")])
        self.assert_raises_with(BadDraft, {"index": 1}, Draft, [go("a", 1), ("label", "a", 0)])

    def test_labels_that_are_called_as_branches(self):
        for rows in ([label("go"), go("go"), label("ask")], [go("go"), label("go"), go("ask", 0, "ask"), label("ask")]):
            self.assertEqual(Draft(rows).rows(), rows)

    def test_equal_to_drafts_of_equal_rows_alone(self):
        draft = Draft([label("a"), words(1)])
        self.assertTrue(draft == Draft([label("a"), words(1)]))
        self.assertFalse(draft == Draft([words(1), label("a")]))
        self.assertTrue(draft != Draft([label("b"), words(1)]))
        for thing in any_objects():
            self.assertFalse(draft == thing)


class Choices(unittest.TestCase, Raising):
    def test_offsets_ways_fits(self):
        draft = Draft([go("end"), words(3), even(4), label("mid"), go("out", 2), go("mid", 0, "call"), label("end")])
        self.assertEqual(draft.offsets([4]), [0, 1, 4, 4, 4, 6, 7, 7])
        self.assertEqual(draft.offsets(choice=[5, 0, 4]), [0, 2, 5, 8, 8, 10, 12, 12])
        self.assertEqual([draft.way([4], index) for index in (0, 4, 5)], [7, None, -2])
        self.assertEqual(draft.way(index=0, choice=(0, 4)), 11)
        self.assertEqual(Draft([words(2), even(3)]).offsets([]), [0, 2, 3])
        self.assertEqual(Draft([even(3), words(2)]).offsets([]), [0, 0, 2])

    def test_reach(self):
        for many, fits in ((254, True), (255, False)):
            self.assertIs(Draft([go("a"), words(many), label("a")]).fits([]), fits)
            self.assertIs(Draft([go("a"), words(many), label("a")]).fits([0]), True)
        for many, fits in ((256, True), (257, False)):
            self.assertIs(Draft([label("a"), words(many), go("a")]).fits(choice=()), fits)

    def test_bad_choices_ahead_of_no_branch(self):
        draft = Draft([go("a"), label("a"), go("out"), go("a")])
        for thing in any_objects() + [(0,), (2, 2), (2, 1), (2, 4), (2, True), (2, None), (-1, 2), "2", {2: 1}, (2, [0])]:
            for call in (draft.offsets, draft.fits):
                self.assert_raises_with(BadChoice, {"thing": thing}, call, thing)
            self.assert_raises_with(BadChoice, {"thing": thing}, draft.way, thing, None)
            self.assert_raises_with(BadChoice, {"thing": thing}, draft.coded_words, "p", thing)
            if thing.__class__ is not int or thing not in (0,):
                self.assert_raises_with(NoBranch, {"index": thing}, draft.way, [2], thing)
        for index in (1, 4, -1, False, True):
            self.assert_raises_with(NoBranch, {"index": index}, draft.way, (3, 2), index)
        self.assertEqual(draft.offsets([3, 0, 2]), draft.offsets((0, 2, 3)))


class Fitting(unittest.TestCase, Raising):
    def test_beside_all_choices(self):
        rng = seeded(100)
        seen = 0
        for number in range(500):
            rows = random_rows(rng, number % 2)
            draft, naive = Draft(rows), Naive(rows)
            fits = [choice for choice in naive.choices() if not naive.too_long(choice)]
            self.assertEqual(draft.all_fits(), fits)
            self.assertEqual(draft.many_fits(), len(fits))
            self.assertEqual(draft.grown(), naive.grown())
            self.assertEqual(draft.least(), min(fits, key=lambda choice: naive.offsets(choice)[-1]))
            tight = [choice for choice in fits if not any(
                tuple(other for other in choice if other != index) in fits for index in choice if index in naive.free)]
            self.assertEqual(draft.tight(), tight)
            self.assertEqual(draft.shrunk(), naive_shrunk(naive))
            self.assertIn(draft.least(), tight)
            self.assertIn(draft.shrunk(), tight)
            seen += draft.least() != draft.grown()
            if not number % 2:
                self.assertIn(draft.grown(), tight)
                self.assertTrue(all(set(draft.grown()) <= set(choice) for choice in fits))
                self.assertTrue(all(tuple(sorted(set(one) & set(other))) in fits for one in fits for other in fits))
        self.assertGreater(seen, 0)

    def test_least_with_even_rows(self):
        """The branch that becomes far first takes up a filler of the even row, by which another one is near again."""
        draft = Draft([go("a"), words(253), even(2), label("a")])
        self.assertEqual(draft.grown(), ())
        rows = [go("b"), go("a"), words(252), even(4), label("a"), words(2), label("b")]
        draft = Draft(rows)
        self.assertEqual(draft.grown(), (0,))
        self.assertEqual(draft.least(), (0,))

    def test_orders_of_choices(self):
        draft = Draft([go("a"), go("out"), go("a"), label("a")])
        self.assertEqual(draft.all_fits(), [(1,), (0, 1), (1, 2), (0, 1, 2)])
        self.assertEqual((draft.grown(), draft.shrunk(), draft.tight()), ((1,), (1,), [(1,)]))
        draft.all_fits().clear()
        self.assertEqual(draft.many_fits(), 4)

    def test_two_that_hold_each_other_far(self):
        draft = Draft([label("b"), words(100), go("a"), words(155), go("b"), words(98), label("a")])
        self.assertEqual(draft.all_fits(), [(), (2, 4)])
        self.assertEqual(draft.tight(), [(), (2, 4)])
        self.assertEqual((draft.least(), draft.grown(), draft.shrunk()), ((), (), (2, 4)))
        self.assertEqual(draft.many_fits(), 2)


def naive_shrunk(naive):
    choice = tuple(naive.branches)
    while True:
        for index in choice:
            less = tuple(other for other in choice if other != index)
            if index in naive.free and not naive.too_long(less):
                choice = less
                break
        else:
            return choice


class Reasons(unittest.TestCase, Raising):
    def chain(self):
        """The last branch is too long by itself, the middle one if it is far, the first one if both are."""
        return Draft([go("c"), go("b"), go("a"), go("out"), words(250), label("c"), words(1), label("b"), words(2), label("a")])

    def test_right_and_bent_lists(self):
        draft = self.chain()
        reasons = draft.reasons()
        self.assertEqual(sorted(index for index, _ in reasons), [index for index in draft.grown() if index != 3])
        self.assertTrue(draft.are_reasons(reasons))
        self.assertTrue(draft.are_reasons(thing=as_lists(reasons)))
        self.assertTrue(draft.are_reasons([]))
        self.assertTrue(draft.are_reasons(reasons[:1]))
        self.assertTrue(draft.are_reasons([(reasons[0][0], (3,))] + reasons[1:]))
        first = reasons[0][0]
        for bent in (reasons[1:], reasons + reasons[:1], [(3, ())], [(first, (first,))], [(first, (3, 3))], [(first,)],
                     [(first, (), ())], [(first, None)], [(True, ())], [(4, ())], [(first, (1, 3))], [(-1, ())],
                     [(first, (True,))]):
            self.assertFalse(draft.are_reasons(bent))
        for thing in any_objects():
            self.assertIs(draft.are_reasons(thing), thing == [] or thing == ())
            self.assertFalse(draft.are_reasons(reasons + [thing]))
            self.assertFalse(draft.are_reasons([(first, thing)]) and thing not in ((), []))
            self.assertFalse(draft.are_reasons([(thing, ())]))

    def test_others_that_do_not_ascend(self):
        draft = Draft([go("a"), go("x"), go("y"), words(254), label("a")])
        self.assertTrue(draft.are_reasons([(0, (1, 2))]))
        self.assertTrue(draft.are_reasons([(0, [1])]))
        self.assertFalse(draft.are_reasons([(0, (2, 1))]))
        self.assertFalse(draft.are_reasons([(0, (True, 2))]))
        self.assertRaises(BadChoice, draft.offsets, [True, 2])
        self.assertFalse(draft.are_reasons([(0, (1, 1))]))

    def test_by_chance(self):
        rng = seeded(102)
        for _ in range(200):
            rows = random_rows(rng, False)
            draft, naive = Draft(rows), Naive(rows)
            reasons = draft.reasons()
            self.assertTrue(draft.are_reasons(reasons))
            self.assertEqual(sorted(index for index, _ in reasons), [one for one in naive.grown() if one in naive.free])
            for index in naive.free:
                self.assertEqual(draft.are_reasons([(index, ())]), index in naive.too_long(naive.outs))
                for far in (naive.outs, naive.branches):
                    others = tuple(one for one in far if one in naive.outs)
                    self.assertEqual(draft.are_reasons([(index, others)]), index in naive.too_long(naive.outs))

    def test_even_rows(self):
        draft = Draft([label("a"), even(1), even(2)])
        for call in (draft.reasons, lambda: draft.are_reasons(None), lambda: draft.room(None)):
            self.assert_raises_with(HasEven, {"index": 1}, call)
        self.assertEqual(draft.put(0, even(1)).grown(), ())
        self.assertEqual(draft.regrown(0, even(4)), ((), ()))
        self.assertEqual(len(draft.without(1)), 2)


class Changes(unittest.TestCase, Raising):
    def test_room_at_each_edge(self):
        draft = Draft([words(1), go("a"), words(250), label("a"), words(1), label("b"), words(255), go("b")])
        self.assertEqual([draft.room(at_) for at_ in range(9)], [None, None, 4, 4, None, None, 1, 1, None])
        self.assertEqual(Draft([]).room(at=0), None)

    def test_room_by_chance(self):
        rng = seeded(103)
        for _ in range(120):
            rows = random_rows(rng, False)
            draft = Draft(rows)
            for at_ in range(len(rows) + 1):
                room = draft.room(at_)

                def grown(many):
                    naive = Naive(rows[:at_] + [words(many)] + rows[at_:])
                    return tuple(index if index < at_ else index - 1 for index in naive.grown())

                if room is None:
                    self.assertEqual(grown(600), draft.grown())
                else:
                    self.assertEqual(grown(room), draft.grown())
                    self.assertNotEqual(grown(room + 1), draft.grown())

    def test_put_and_without(self):
        draft = Draft([go("a"), words(1)])
        self.assertEqual(draft.put(2, label("a")), Draft([go("a"), words(1), label("a")]))
        self.assertEqual(draft.put(row=["label", "a"], at=0), Draft([label("a"), go("a"), words(1)]))
        self.assertEqual(draft.without(at=0), Draft([words(1)]))
        self.assertEqual(draft.put(1, label("a")).without(1), draft)
        self.assertEqual(draft.without(1), Draft([go("a")]))
        self.assertEqual(len(draft), 2)

    def test_bad_at_and_bad_draft(self):
        draft = Draft([go("a", 3), label("b"), words(1)])
        for thing in any_objects() + [4, -1]:
            if not (thing.__class__ is int and 0 <= thing <= 3):
                for call in (draft.put, draft.regrown):
                    self.assert_raises_with(BadAt, {"index": thing}, call, thing, None)
                self.assert_raises_with(BadAt, {"index": thing}, draft.room, thing)
                self.assert_raises_with(BadAt, {"index": thing}, draft.without, thing)
            for call in (draft.put, draft.regrown):
                self.assert_raises_with(BadDraft, {"index": 3}, call, 3, thing)
        self.assert_raises_with(BadAt, {"index": 3}, draft.without, 3)
        self.assert_raises_with(BadAt, {"index": 0}, Draft([]).without, 0)
        for at_ in range(4):
            for row in (label("a"), label("b"), go("b", 1)):
                self.assert_raises_with(BadDraft, {"index": at_}, draft.put, at_, row)
                self.assert_raises_with(BadDraft, {"index": at_}, draft.regrown, at_, row)

    def test_regrown(self):
        draft = Draft([go("a"), words(254), label("a"), go("out")])
        self.assertEqual(draft.regrown(row=words(1), at=1), ((0,), ()))
        self.assertEqual(draft.regrown(1, words(0)), ((), ()))
        self.assertEqual(draft.regrown(0, words(9)), ((), ()))
        self.assertEqual(draft.regrown(4, label("out")), ((), (3,)))
        self.assertEqual(draft.regrown(1, go("else")), ((0,), ()))
        # What is put in is in neither, though it is far itself.
        self.assertEqual(draft.put(0, go("a")).grown(), (0, 4))
        self.assertEqual(draft.regrown(0, go("a")), ((), ()))

    def test_regrown_by_chance(self):
        rng = seeded(104)
        for number in range(250):
            rows = random_rows(rng, number % 2)
            draft = Draft(rows)
            at_ = rng.randint(0, len(rows))
            row = rng.choice([label("out"), label("zz"), words(rng.randint(1, 200)), go("la"), go("else", 3), even(4)])
            try:
                newer = Naive(draft.put(at_, row).rows()).grown()
            except BadDraft:
                continue
            elder = [index if index < at_ else index + 1 for index in Naive(rows).grown()]
            self.assertEqual(draft.regrown(at_, row), (
                tuple(index for index in newer if index not in elder and index != at_),
                tuple(index for index in elder if index not in newer)))
            if not number % 2 and row[0] == "words":
                self.assertEqual(draft.regrown(at_, row)[1], ())


class Coded(unittest.TestCase, Raising):
    def test_near_and_far_branches_and_labels_in_words(self):
        draft = Draft([label("a"), ("words", [named("a", 5), (1, [(("name", "b"), -2), (("name", "w"), 1), (("piece", "q"), 1)])]),
                       go("a", 0, "ask"), go("b"), even(2), label("b"), go("out", 3, "call"), go("a", 0, "call")])
        self.assertEqual(draft.coded_words("p", [6]), [
            at("p", 5), (-7, ((("piece", "p"), -2), (("piece", "q"), 1), (("name", "w"), 1))), (coded(3, 0, 0, -2), ()),
            (coded(5, 0, 0, 1), ()), (coded(15), ()), named("out", 3), (coded(14, 0, 0, -6), ())])
        self.assertEqual(draft.coded_words(choice=(2, 3, 6, 7), p="p"), [
            at("p", 5), (-11, ((("piece", "p"), -2), (("piece", "q"), 1), (("name", "w"), 1))), (coded(4), ()), at("p"),
            (coded(6), ()), at("p", 6), (coded(15), ()), named("out", 3), (coded(15), ()), at("p")])
        self.assertEqual(Draft([words(1), even(4)]).coded_words("p", []), [(7, ())] + [(coded(9), ())] * 3)
        self.assertEqual(Draft([]).coded_words("p", []), [])

    def test_errors_in_their_order(self):
        draft = Draft([words(300), label("a"), go("out"), words(300), go("a"), go("a", 0, "ask")])
        for thing in any_objects():
            if thing != "a":
                self.assert_raises_with(NoName, {"name": thing}, draft.coded_words, thing, None)
            self.assert_raises_with(BadChoice, {"thing": thing}, draft.coded_words, "p", thing)
        self.assert_raises_with(TooLong, {"index": 4}, draft.coded_words, "p", [2])
        self.assert_raises_with(TooLong, {"index": 5}, draft.coded_words, "p", [4, 2])
        self.assert_raises_with(TooLong, {"index": 4}, draft.coded_words, "p", [2, 5])
        self.assertEqual(len(draft.coded_words("p", [2, 4, 5])), 606)

    def test_images_that_differ_by_choices_alone_are_alike(self):
        rng = seeded(105)
        for _ in range(25):
            rows = [label("a"), ("words", [coded(TAKE, 1)]), label("b"), ("words", [coded(TELL, 1)]), go("a", 0, "ask"),
                    words(0), label("c"), ("words", [coded(TAKE, 2), coded(TELL, 2)]), go("b", 0, "ask"), go("d"),
                    ("words", [coded(9)] * rng.choice([1, 30])), label("d"), go("c")]
            if rng.random() < 0.7:
                rows.insert(rng.choice([2, 6, 11]), even(rng.choice([2, 4, 8])))
            draft = Draft(rows)
            fits = draft.all_fits()
            images = [Image([("p", "code", draft.coded_words("p", choice))], ("p", 0))
                      for choice in (fits[0], rng.choice(fits), fits[-1])]
            self.assertTrue(alike(images[0], images[1]))
            self.assertTrue(alike(images[0], images[2]))
            self.assertGreater(len(images[2]), len(images[0]) - 8)
