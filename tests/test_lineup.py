"""[81], [82], [83]: who comes by a line, whose the names are, what all are together."""

import unittest

from loadanywhere.errors import BadLine, SamePiece, Twice, Untold
from loadanywhere.lineup import came, linked, untold, whose
from loadanywhere.sums import put_in
from loadanywhere.units import Unit
from loadanywhere.wantchains import chains, is_want_chain, trimmed
from tests.helpers import Raising, any_objects, as_lists, at, has_lists_within, named
from tests.linking import NaiveLine, random_line
from tests.naive import seeded


def unit(p, tells="", wants=""):
    """A unit of a piece with a word for each name."""
    tells, wants = tells.split(), wants.split()
    return Unit([(p, "data", [named(n) for n in wants] + [named(n) for n in tells] + [at(p)])],
                {n: (p, len(wants) + index) for index, n in enumerate(tells)})


def member(m, tells="", wants="", weak=()):
    return (m, unit("p" + m, tells, wants), list(weak))


class Kinds(unittest.TestCase, Raising):
    def test_right_ones(self):
        for line in ([], (), [("library", [])], [("group", [])], [("group", [[], []])], [["group", ((), [])]]):
            self.assertEqual(came(line), [])
            self.assertEqual(whose(line), {})
            self.assertEqual(untold(line), [])
            self.assertEqual(linked(line), Unit([]))
        # Names of members are unlike within a library alone; weak ones may stand twice.
        one = member("m", "a", "b", ["a", "a", "b", "a"])
        line = [("member", one), ["member", list(one)], ("library", [one]), ("group", [[one], (one,)])]
        self.assertEqual(came(line), [((0, "m"), None), ((1, "m"), None)])
        self.assertEqual(came(line=as_lists(line)), came(line))

    def test_bad_lines(self):
        right = ("member", member("m", "a", "b"))
        some = unit("p", "a", "b")
        wrong = [("member",), ("member", right[1], 1), ("members", right[1]), ("member", right[1][:2]),
                 ("member", right[1] + (1,)), ("member", [right[1]]), ("library", right[1]), ("library", [right]),
                 ("library", [right[1], right[1]]), ("group", [right[1]]), ("group", right[1]), ("library", None),
                 ("group", [[right[1]], [right[1], right[1]]]), ("group", [None]), ("group", {}), ("library", {}),
                 ("member", ("M", some, [])), ("member", ("m", None, [])), ("member", ("m", some, None)),
                 ("member", ("m", some, ["c"])), ("member", ("m", some, ["a", 1])), ("member", ("m", some, "ab")),
                 ("member", ("m", some, [["a"]])), ("member", ("m", [], [])), (["member"], right[1]),
                 ("library", [("m", some, ["c"])]), ("group", [[("m", some, ["c"])]]), ("group", [[right]])]
        for call in (came, whose, untold, linked, chains, trimmed, lambda line: is_want_chain(line, None)):
            for thing in any_objects():
                if thing.__class__ not in (list, tuple):
                    self.assert_raises_with(BadLine, {"index": 0}, call, thing)
                self.assert_raises_with(BadLine, {"index": 1}, call, [right, thing, None])
                self.assert_raises_with(BadLine, {"index": 0}, call, [("member", thing)])
                if thing.__class__ not in (list, tuple) or len(thing) > 0:
                    self.assert_raises_with(BadLine, {"index": 0}, call, [("library", thing)])
                    self.assert_raises_with(BadLine, {"index": 1}, call, [right, ("library", [thing])])
                    if thing not in ([[]], ((),)):
                        self.assert_raises_with(BadLine, {"index": 0}, call, [("group", thing)])
                    self.assert_raises_with(BadLine, {"index": 0}, call, [("group", [[], thing])])
            for thing in wrong:
                self.assert_raises_with(BadLine, {"index": 2}, call, [right, right, thing, None])


class WhoComes(unittest.TestCase):
    def test_libraries(self):
        lib = [member("x", "b"), member("y", "a", "b"), member("z", "c"), member("w", "c", "d")]
        main = ("member", member("m", "start", "a c"))
        # From the first one on each time: behind y comes x, ahead of z.
        self.assertEqual(came([main, ("library", lib)]),
                         [((0, "m"), None), ((1, "y"), "a"), ((1, "x"), "b"), ((1, "z"), "c")])
        self.assertEqual(came([("library", lib), main]), [((1, "m"), None)])
        self.assertEqual(untold([("library", lib), main]), ["a", "c"])
        # What stands behind wants what a library ahead could have told: too late.
        late = ("member", member("l", "", "b d"))
        self.assertEqual(came([main, ("library", lib[2:]), late]), [((0, "m"), None), ((1, "z"), "c"), ((2, "l"), None)])
        self.assertEqual(untold([main, ("library", lib[2:]), late]), ["a", "b", "d"])
        # The first name as strings compare, not as it is told.
        two = member("t", "e c", "")
        self.assertEqual(came([("member", member("m", "", "e c")), ("library", [two])])[1], ((1, "t"), "c"))
        # The same member by several things comes by several seats, if its names are open then.
        self.assertEqual(came([main, ("library", lib[2:3]), ("member", lib[2])])[1:], [((1, "z"), "c"), ((2, "z"), None)])

    def test_weak_and_strong(self):
        weak_told = ("library", [member("x", "a", "", ["a"])])
        strong = ("library", [member("y", "a")])
        main = ("member", member("m", "", "a"))
        self.assertEqual(came([main, weak_told]), [((0, "m"), None)])
        self.assertEqual(untold([main, weak_told]), ["a"])
        self.assertEqual(came([main, weak_told, strong])[1:], [((2, "y"), "a")])
        # A name that somebody who came tells weakly is open no more.
        self.assertEqual(came([main, ("member", member("w", "a", "", ["a"])), strong])[1:], [((1, "w"), None)])
        # What is wanted weakly alone brings nobody.
        weak_want = ("member", member("v", "", "a", ["a"]))
        self.assertEqual(came([weak_want, strong]), [((0, "v"), None)])
        self.assertEqual(untold([weak_want]), [])
        self.assertEqual(came([weak_want, main, strong])[2:], [((2, "y"), "a")])

    def test_groups(self):
        one = [member("x", "a", "b"), member("y", "c")]
        other = [member("z", "b", "c"), member("w", "d")]
        main = ("member", member("m", "", "a d"))
        self.assertEqual(came([main, ("group", [one, other])]),
                         [((0, "m"), None), ((1, 0, "x"), "a"), ((1, 1, "z"), "b"), ((1, 1, "w"), "d"),
                          ((1, 0, "y"), "c")])
        self.assertEqual(came([main, ("library", one), ("library", other)])[-1], ((2, "w"), "d"))
        self.assertEqual(untold([main, ("library", one), ("library", other)]), ["c"])

    def test_beside_the_rules(self):
        rng = seeded(410)
        by_libraries = 0
        for _ in range(400):
            line = random_line(rng)
            naive = NaiveLine(line)
            self.assertEqual(came(line), naive.came())
            self.assertEqual(untold(line), sorted(naive.names()))
            self.assertFalse(has_lists_within(came(line)))
            right = naive.whose()
            if isinstance(right, tuple):
                with self.assertRaises(Twice) as caught:
                    whose(line)
                self.assertEqual(vars(caught.exception), dict(zip(["n", "seat", "other"], right)))
            else:
                self.assertEqual((whose(line), list(whose(line))), (right, list(right)))
            by_libraries += sum(name is not None for _, name in naive.came())
            self.check_linked(line, naive, right)
        self.assertGreater(by_libraries, 200)

    def check_linked(self, line, naive, right):
        pieces = [piece for _, one, _ in naive.here for piece in one[1].pieces()]
        same = [p for index, (p, _, _) in enumerate(pieces) if p in [other[0] for other in pieces[:index]]]
        try:
            found = linked(line)
        except Twice as error:
            self.assertEqual((error.n, error.seat, error.other), right)
        except SamePiece as error:
            self.assertIsInstance(right, dict)
            self.assertEqual(error.p, same[0])
        except Untold as error:
            self.assertEqual((isinstance(right, dict), same), (True, []))
            self.assertEqual(error.n, min(naive.names()))
        else:
            owners = {seat: one[1] for seat, one, _ in naive.here}
            told = {n: owners[seat].told()[n] for n, seat in right.items()}
            worths = {("name", n): 0 for _, one, _ in naive.here for n in one[1].wanted()}
            worths.update({("name", n): at(*address) for n, address in told.items()})
            self.assertEqual((found.told(), list(found.told())), (told, sorted(told)))
            self.assertEqual(found.pieces(), [(p, kind, tuple(put_in(word, worths) for word in words))
                                              for p, kind, words in pieces])
            self.assertEqual(found.wanted(), [])


class Whose(unittest.TestCase, Raising):
    def test_by_hand(self):
        weak = ("member", member("w", "a b", "", ["a", "b"]))
        more = ("member", member("v", "b a", "", ["a", "b"]))
        strong = ("member", member("s", "b c"))
        self.assertEqual(whose([weak, more, strong]), {"a": (0, "w"), "b": (2, "s"), "c": (2, "s")})
        self.assertEqual(list(whose(line=[strong, more, weak])), ["a", "b", "c"])
        self.assertEqual(whose([strong, more, weak]), {"a": (1, "v"), "b": (0, "s"), "c": (0, "s")})
        lib = ("group", [[], [member("x", "d")]])
        self.assertEqual(whose([("member", member("m", "", "d")), lib]), {"d": (1, 1, "x")})

    def test_twice(self):
        one, other = ("member", member("s", "b a")), ("member", member("t", "c b"))
        third = ("member", member("u", "a b c"))
        for call in (whose, linked):
            self.assert_raises_with(Twice, {"n": "b", "seat": (0, "s"), "other": (1, "t")}, call, [one, other])
            self.assert_raises_with(Twice, {"n": "a", "seat": (0, "s"), "other": (2, "u")}, call, [one, other, third])
        for call in (came, untold, chains, trimmed):
            call([one, other, third])
        # Members of libraries that did not come tell nothing.
        self.assertEqual(whose([one, ("library", [other[1]])]), {"a": (0, "s"), "b": (0, "s")})

    def test_words(self):
        # A name is that of the strong one also in the words of the one that tells it weakly.
        weak = ("w", Unit([("pw", "data", [named("a", 5), named("w", 1)])], {"a": ("pw", 1)}), ["a", "w"])
        strong = ("s", Unit([("ps", "data", [0, 0, named("a"), named("b")])], {"a": ("ps", 2), "b": ("ps", 0)}), ["b"])
        found = linked([("member", weak), ("member", strong)])
        self.assertEqual(found.pieces(), [("pw", "data", (at("ps", 7), (1, ()))),
                                          ("ps", "data", ((0, ()), (0, ()), at("ps", 2), at("ps", 0)))])
        self.assertEqual(list(found.told().items()), [("a", ("ps", 2)), ("b", ("ps", 0))])

    def test_errors_in_order(self):
        one = ("member", ("s", Unit([("p", "data", [named("w")])], {"a": ("p", 0)}), []))
        same = ("member", ("t", Unit([("q", "data", [1]), ("p", "data", [named("v")])], {"a": ("q", 0)}), []))
        unlike = ("member", ("t", Unit([("q", "data", [1]), ("p", "data", [named("v")])], {"b": ("q", 0)}), []))
        self.assert_raises_with(Twice, {"n": "a"}, linked, [one, same])
        self.assert_raises_with(SamePiece, {"p": "p"}, linked, [one, unlike])
        self.assert_raises_with(Untold, {"n": "w"}, linked, [one])
        self.assert_raises_with(Untold, {"n": "v"}, linked, [("member", member("x", "", "w")), ("member", member("y", "", "v"))])


if __name__ == "__main__":
    unittest.main()
