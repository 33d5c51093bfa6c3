"""[1] to [3]: what everything keeps to, and the interface as it is written."""

import importlib
import inspect
import unittest

from loadanywhere.kinds import are_unlike_names, is_integer, is_name, read_address
from tests.helpers import any_objects

INTERFACE = {
    "sums": ["sum_of(thing)", "plus(one, other)", "minus(one, other)", "times(one, number)", "put_in(one, worths)",
             "unknowns(one)", "address_of(one)"],
    "words": ["coded(code, x=0, y=0, d=0)", "fields(word)", "instruction(word)"],
    "images": ["Image(pieces, start): pieces(), word(p, k), __len__(), __eq__(other)", "laid(image, places)"],
    "plainruns": ["played(image, places, answers)",
                  "Machine(image, places): give(answers), undo(), again(), registers(), at(), words(), events()"],
    "freetold": ["free_events(image, answers)", "free_state(image, answers)"],
    "greats": ["great_counts(image, great)", "great_registers(image, great, worths, modulo)"],
    "units": ["Unit(pieces, told=None): pieces(), told(), wanted(), word(p, k), __len__(), __eq__(other)",
              "bound(unit)", "together(one, other)", "with_names(unit, worths)",
              "renamed(unit, pieces=None, names=None)", "image_of(unit, name)"],
    "joins": ["merged(unit, some, p)", "pulled(unit, p, k, q)"],
    "bases": ["base_of(rows, many)"],
    "relocating": ["relocations(unit)", "plain(unit)", "mended(unit, rows)", "shift(image, moves)",
                   "hangs_on(image, p)", "free_moves(image)", "tied(image)", "misfits(image, places)",
                   "always_near(image)", "fitting(image, places)"],
    "packs": ["packed(offsets)", "unpacked(stretches)", "packed_relocations(unit)"],
    "dumps": ["Dumps(pieces, rows): rows(), addresses(), __eq__(other)", "only_sum(dumps, p, k)",
              "known_at(dumps, p, k)", "settles(places)", "sure_parts(places)", "more_dumps(places)",
              "least_settling(places)", "told_back(dumps)"],
    "modules": ["Module(name, unit, needs=(), weak=(), late=()): __eq__(other)",
                "Shelf(modules): names(), module(name), __eq__(other)", "group_of(shelf, name)",
                "beginnings(shelf, name)", "is_beginning(shelf, name, thing)"],
    "spaces": ["Space(shelf, root): bring(name, ahead=False), close(name), call(name, wanted), opened(), scope(), "
               "loaded(), bound(), undo(), again(), copy()"],
    "holdings": ["held_by(space, name)", "is_chain(space, name, thing)", "loaded_unit(space)",
                 "loaded_words(space, places)", "early_image(shelf, root, name)"],
    "scopesteps": ["stepped(shelf, root, steps)", "spaces(shelf, root, some)",
                   "meanings(shelf, root, some, name, wanted)"],
    "latenames": ["late_parting(shelf, root, some)", "late_table(shelf, root, some)",
                  "shows_late(shelf, root, some, thing)"],
    "processes": ["Process(shelf, root, name): give(answers), bring(name, ahead=False), close(name), space(), state(), "
                  "events(), undo(), again()"],
    "movetables": ["points(image)", "multiples(image, answers)", "sure_multiples(image, at)", "can_be_moved(image, at)",
                   "unsure(image, at, p)", "unlike_runs(image, at, where, p)", "never_moved(image)",
                   "move_table(image)"],
    "movepapers": ["is_move_table(image, thing)", "sure_by(image, table, at)"],
    "movers": ["Mover(image, places): give(answers), undo(), again(), registers(), at(), words(), events(), places(), "
               "move(moves)"],
    "walks": ["lost_row(image)", "talking_stands(image)", "alike(one, other)",
              "alike_from(one, here, other, there, rows)"],
    "partings": ["alike_paper(one, other)", "least_parting(one, other)", "looks_at_places(image)"],
    "papers": ["is_paper(one, other, thing)", "paper_turned(one, other, thing)",
               "papers_joined(one, middle, other, first, second)"],
    "sures": ["span_at(image, stand)", "sure_sums(image, stand)", "surely(image, stand, factors)",
              "sure_value(image, stand, x)", "needed_sums(image, stand)", "least_held(image, stand)"],
    "oneforms": ["one_form(image)"],
    "drafts": ["Draft(rows): __len__(), __eq__(other), rows(), branches(), offsets(choice), way(choice, index), "
               "fits(choice), grown(), all_fits(), many_fits(), least(), tight(), shrunk(), reasons(), "
               "are_reasons(thing), room(at), put(at, row), without(at), regrown(at, row), coded_words(p, choice)"],
    "lots": ["lot_of(image, strides=None)", "is_layout(lot, thing)", "row_of(lot, order, begin=0)",
             "end_of(lot, layout)"],
    "rowends": ["ends(lot, begin=0)", "shows_ends(lot, begin, thing)", "shortest(lot, begin=0)", "nearest(lot, calls)"],
    "holes": ["laid_in(lot, holes)", "filled(lot, holes)"],
    "reaches": ["in_reach(lot, layout, reaches)", "least_places(lot, order, reaches, last)",
                "climb(lot, order, reaches, last)", "shows_climb(lot, order, reaches, last, thing)",
                "barring_ring(lot, order, reaches)", "orders_in_reach(lot, reaches, last)"],
    "stubs": ["fewest_stubs(calls, rooms, reach)", "calls_apart(calls, rooms, reach)",
              "are_stubs(calls, rooms, reach, thing)", "fewest_hops(calls, goals, rooms, reach)",
              "way_of(calls, goals, rooms, reach, index)"],
    "sumtexts": ["sum_text(one)"],
    "assembling": ["assembled(text, far=None)", "listing(text, far=None)", "line_of(text, p, k, far=None)",
                   "draft_of(text, p)"],
    "textforms": ["written_out(text)", "rows_back(unit)"],
    "lineup": ["came(line)", "whose(line)", "untold(line)", "linked(line)"],
    "wantchains": ["chains(line)", "is_want_chain(line, thing)", "trimmed(line)"],
    "deadparts": ["reached(unit, roots)", "struck(unit, roots)", "way_to(unit, roots, p)", "classes(unit)",
                  "folded(unit)"],
    "exchanges": ["Exchange(one, other, led): unseen(), why_not(at)"],
    "runners": ["Runner(image, places): give(answers), undo(), again(), registers(), at(), words(), events(), "
                "exchange(other, led, places), placing()"],
    "houses": ["House(): put_source(n, text), put_line(n, things), put_image(n, line, root), drop(kind, n), "
               "start(n, image, places), give(n, answers), run(n), placed(n), is_old(n), renew(n, led), unit(n), "
               "linked(n), image(n), made(), needs(kind, n), tried(deeds, work), undo(), again(), count()"],
    "housetexts": ["house_text(house)", "read_house(text)"],
    "movenotes": ["to_note(image)", "shown_places(image)", "unseen(image, at, p)", "first_shown(image, p)"],
}


def parameters_of(thing):
    """The parameters of a function or class as they are written in the interface, self aside."""
    text = str(inspect.signature(thing))
    return text.replace("(self, ", "(").replace("(self)", "()")


class Interface(unittest.TestCase):
    def test_names_and_parameters(self):
        for file, lines in INTERFACE.items():
            module = importlib.import_module("loadanywhere." + file)
            for line in lines:
                head, _, rest = line.partition(": ")
                name, bracket, parameters = head.partition("(")
                thing = getattr(module, name)
                self.assertEqual(thing.__module__, module.__name__)
                self.assertEqual(parameters_of(thing), bracket + parameters)
                for method in rest.replace("), ", ");").split(";") if rest else []:
                    called, bracket, parameters = method.partition("(")
                    self.assertIn(called, vars(thing))
                    self.assertEqual(parameters_of(vars(thing)[called]), bracket + parameters)


    def test_all_files_are_there(self):
        listed = {"errors", *INTERFACE}
        self.assertEqual(len(listed), 44)
        for file in listed:
            importlib.import_module("loadanywhere." + file)


class Kinds(unittest.TestCase):
    def test_integers(self):
        for thing in any_objects():
            self.assertEqual(is_integer(thing), thing.__class__ is int)

    def test_names(self):
        for name in ("a", "z", "abcdefgh"):
            self.assertTrue(is_name(name))
        for thing in any_objects() + ["abcdefghi", "a b", "a_", "\u00e9", "aB", "1", " "]:
            self.assertEqual(is_name(thing), thing == "a")

    def test_addresses(self):
        self.assertEqual(read_address(["a", -5]), ("a", -5))
        for thing in (("a", True), ("A", 0), ("a",), ("a", 0, 0), "a0", None, {"a": 0}):
            self.assertIsNone(read_address(thing))

    def test_unlike_names(self):
        self.assertTrue(are_unlike_names(()))
        self.assertTrue(are_unlike_names(["a", "b"]))
        for thing in ("ab", {"a": 1}, ["a", "a"], ["a", 1], ["a", []], None):
            self.assertFalse(are_unlike_names(thing))
