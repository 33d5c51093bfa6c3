"""[3]: lists for tuples, arguments by their names in another order, what is passed and told being changed behind."""

import copy
import unittest

from loadanywhere.assembling import assembled, line_of, listing
from loadanywhere.deadparts import classes, folded, reached, struck, way_to
from loadanywhere.exchanges import Exchange
from loadanywhere.holes import filled, laid_in
from loadanywhere.houses import House
from loadanywhere.lineup import came, linked, untold, whose
from loadanywhere.lots import end_of, is_layout, lot_of, row_of
from loadanywhere.reaches import barring_ring, climb, in_reach, least_places, orders_in_reach, shows_climb
from loadanywhere.rowends import ends, nearest, shortest, shows_ends
from loadanywhere.runners import Runner
from loadanywhere.stubs import are_stubs, calls_apart, fewest_hops, fewest_stubs, way_of
from loadanywhere.sumtexts import sum_text
from loadanywhere.textforms import rows_back, written_out
from loadanywhere.units import Unit, image_of
from loadanywhere.wantchains import chains, is_want_chain, trimmed
from tests.helpers import as_lists, as_tuples, has_lists_within

LOT = {"a": (3, 1), "b": (5, 4), "c": (1, 2)}
FLAT = {"a": (3, 1), "b": (5, 1)}
REACHES = [("a", 0, "b", 4, 0, 9), ("b", 0, "c", 0, -20, 20)]
CALLS = [(0, "f"), (30, "g"), (9, "f")]
TEXT = "code p\nla:\ngoany la\naskany w\ndata d\nword 1 2"

ROOTED = assembled("code p\nla:\nset r1 d\nstop\ndata d\nword 1 2\ntold la")
LINE = [("member", ("m", assembled("code m\nla:\ngofar out\ntold la"), ["la"])),
        ("library", [("n", assembled("code n\nout:\ngofar two\ntold out"), [])]),
        ("group", [[], [("q", assembled("code q\ntwo:\nstop\ntold two"), ["two", "two"]),
                        ("o", assembled("code o\ntwo:\nstop\ntold two"), [])]])]
CHAIN = [(0, "m"), "out", (1, "n"), "two", (2, 1, "o")]
TAKING = image_of(assembled("code m\nla:\ntake r1\ntell r1\ngoany la\ntold la"), "la")

# Functions with arguments by names.
TABLE = (
    (lot_of, {"image": Unit([("a", "data", [1, 2])]), "strides": {"a": 8}}),
    (is_layout, {"lot": LOT, "thing": {"a": 0, "b": 4, "c": 10}}),
    (row_of, {"lot": LOT, "order": ("b", "a", "c"), "begin": 3}),
    (end_of, {"lot": LOT, "layout": {"a": 0, "b": 4, "c": 10}}),
    (ends, {"lot": LOT, "begin": 2}), (shortest, {"lot": LOT, "begin": 2}),
    (shows_ends, {"lot": {"a": (3, 1)}, "begin": 2, "thing": {(): 2, (0,): 5}}),
    (nearest, {"lot": LOT, "calls": {("a", "c"): 2}}),
    (laid_in, {"lot": LOT, "holes": [(0, 5), (8, 20)]}), (filled, {"lot": LOT, "holes": [(0, 5), (8, 20)]}),
    (in_reach, {"lot": LOT, "layout": {"a": 40, "b": 4, "c": 10}, "reaches": REACHES}),
    (least_places, {"lot": LOT, "order": ("a", "b", "c"), "reaches": REACHES, "last": 30}),
    (climb, {"lot": LOT, "order": ("a", "b", "c"), "reaches": REACHES, "last": 8}),
    (shows_climb, {"lot": LOT, "order": ("a", "b", "c"), "reaches": REACHES, "last": 8, "thing": [("b", -1)]}),
    (barring_ring, {"lot": FLAT, "order": ("a", "b"), "reaches": [("a", 0, "b", 0, 0, 2)]}),
    (orders_in_reach, {"lot": LOT, "reaches": REACHES, "last": 20}),
    (fewest_stubs, {"calls": CALLS, "rooms": [5, 25], "reach": 5}),
    (calls_apart, {"calls": CALLS, "rooms": [5, 25], "reach": 5}),
    (are_stubs, {"calls": CALLS, "rooms": [5, 25], "reach": 5, "thing": {"f": (5,), "g": (25, 25)}}),
    (fewest_hops, {"calls": CALLS, "goals": {"f": 2, "g": 18}, "rooms": [5, 25], "reach": 7}),
    (way_of, {"calls": CALLS, "goals": {"f": 2, "g": 18}, "rooms": [5, 25], "reach": 7, "index": 1}),
    (sum_text, {"one": (5, ((("piece", "p"), 2),))}),
    (assembled, {"text": TEXT, "far": {"p": (2, 1)}}), (listing, {"text": TEXT, "far": {"p": (2, 1)}}),
    (line_of, {"text": TEXT, "p": "d", "k": 1, "far": {"p": (1, 2)}}),
    (written_out, {"text": TEXT}), (rows_back, {"unit": ROOTED}),
    (reached, {"unit": ROOTED, "roots": ("la",)}), (struck, {"unit": ROOTED, "roots": ("la",)}),
    (way_to, {"unit": ROOTED, "roots": ("la",), "p": "d"}), (classes, {"unit": ROOTED}), (folded, {"unit": ROOTED}),
    (came, {"line": LINE}), (whose, {"line": LINE}), (untold, {"line": LINE}), (linked, {"line": LINE}),
    (chains, {"line": LINE}), (is_want_chain, {"line": LINE, "thing": CHAIN}), (trimmed, {"line": LINE}),
)


def bend(thing):
    """Changes a list or a dict, as far as it can be changed."""
    if isinstance(thing, list):
        for one in thing:
            bend(one)
        thing.append("bent")
    if isinstance(thing, dict):
        for one in thing.values():
            bend(one)
        thing["bent"] = "bent"


class Passing(unittest.TestCase):
    def test_lists_for_tuples(self):
        for call, named in TABLE:
            right = call(**named)
            self.assertFalse(right is None or right is False, call)
            self.assertFalse(has_lists_within(right), call)
            for change in (as_lists, as_tuples):
                given = {name: change(thing) if not isinstance(thing, Unit) else thing for name, thing in named.items()}
                self.assertEqual(call(**given), right, call)

    def test_by_place_and_by_name(self):
        for call, named in TABLE:
            right = call(**named)
            self.assertEqual(call(*named.values()), right, call)
            self.assertEqual(call(**dict(reversed(list(named.items())))), right, call)

    def test_changed_behind(self):
        for call, named in TABLE:
            given = {name: as_lists(thing) if not isinstance(thing, Unit) else thing for name, thing in named.items()}
            held = copy.deepcopy({name: thing for name, thing in given.items() if not isinstance(thing, Unit)})
            right = call(**given)
            self.assertEqual({name: given[name] for name in held}, held, call)
            kept = copy.deepcopy(right)
            for thing in given.values():
                bend(thing)
            self.assertEqual(right, kept, call)
            bend(right)
            self.assertEqual(call(**named), kept, call)

    def test_live_ones(self):
        led = {("m", 0): ["m", 0]}
        house = House()
        for method, named in (
                (house.put_source, {"text": "code m\nla:\ntake r1\ntell r1\ngoany la\ntold la", "n": "s"}),
                (house.put_line, {"things": (["member", ("s", ())], ("library", ())), "n": "l"}),
                (house.put_image, {"root": "la", "line": "l", "n": "i"}),
                (house.start, {"places": {"m": 5}, "image": "i", "n": "r"}),
                (house.give, {"answers": (4,), "n": "r"}), (house.renew, {"led": led, "n": "r"}),
                (house.drop, {"n": "i", "kind": "image"})):
            method(**named)
        self.assertEqual(house.run(n="r"), [("take", 4), ("tell", 4)])
        self.assertEqual(house.placed(n="r"), {"m": 1000000})
        self.assertEqual(house.needs(n="r", kind="run"), [("image", "i")])
        deeds = (("give", "r", (5,)), ["drop", "source", "s"])
        self.assertEqual(house.tried(work=lambda inner: inner.count(), deeds=deeds), 9)
        runner = Runner(places={"m": 5}, image=TAKING)
        self.assertEqual(runner.give(answers=(4,)), [("take", 4), ("tell", 4)])
        self.assertEqual(runner.exchange(places={"m": 9}, led=led, other=TAKING), 2)
        exchange = Exchange(led=led, other=TAKING, one=TAKING)
        self.assertIsNone(exchange.why_not(at=["m", 0]))
        self.assertEqual(exchange.led, {("m", 0): ("m", 0)})


if __name__ == "__main__":
    unittest.main()
