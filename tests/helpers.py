"""What several tests need: objects of every kind, and ways to pass lists for tuples."""

from loadanywhere.images import Image
from loadanywhere.modules import Module, Shelf
from loadanywhere.plainruns import Machine
from loadanywhere.units import Unit

STOP = Image([("a", "code", [0])], ("a", 0))
EMPTY = Unit([])


def any_objects():
    """One object of each kind, and some more."""
    machine = Machine(STOP, {"a": 0})
    shelf = Shelf([Module("m", EMPTY)])
    return [
        None, True, False, 0, 1, -1, 10 ** 40, "", "a", "A", "toolongname", "a1", [], (), {}, [1], (1, 2), [[]], ((),),
        {"a": 1}, {("a", 0): 0}, ("a", 0), ["a", 0], ("a", True), (0, ()), [0, []], STOP, EMPTY, machine, shelf,
        Module("m", EMPTY),
    ]


def is_sum_at_sight(thing):
    """Whether one of any_objects is a sum."""
    return (isinstance(thing, int) and not isinstance(thing, bool)) or (
        isinstance(thing, (list, tuple)) and len(thing) == 2 and thing[0] == 0 and thing[0] is not False
        and isinstance(thing[1], (list, tuple)))


def is_name_at_sight(thing):
    return isinstance(thing, str) and thing == "a"


def as_lists(thing):
    """The same with a list for each tuple, keys of dicts aside."""
    if isinstance(thing, (list, tuple)):
        return [as_lists(one) for one in thing]
    if isinstance(thing, dict):
        return {key: as_lists(worth) for key, worth in thing.items()}
    return thing


def as_tuples(thing):
    if isinstance(thing, (list, tuple)):
        return tuple(as_tuples(one) for one in thing)
    if isinstance(thing, dict):
        return {key: as_tuples(worth) for key, worth in thing.items()}
    return thing


def has_lists_within(thing):
    """Whether a list stands in a tuple, so that what is told could be changed behind."""
    if isinstance(thing, tuple):
        return any(isinstance(one, (list, dict)) or has_lists_within(one) for one in thing)
    if isinstance(thing, list):
        return any(has_lists_within(one) for one in thing)
    if isinstance(thing, dict):
        return any(has_lists_within(one) for one in thing.values())
    return False


def at(p, k=0):
    """The sum of an address."""
    return (k, ((("piece", p), 1),))


def named(n, k=0):
    """The sum of a name and a number."""
    return (k, ((("name", n), 1),))


class Raising:
    """To be mixed into test cases: the error that a call raises, with its very arguments."""

    def assert_raises_with(self, error, told, call, *some, **more):
        with self.assertRaises(error) as caught:
            call(*some, **more)
        self.assertIs(error, caught.exception.__class__)
        for name, thing in told.items():
            found = getattr(caught.exception, name)
            if isinstance(thing, (list, dict)) or thing.__class__ not in (int, str, tuple):
                self.assertIs(found, thing)
            else:
                self.assertEqual((found.__class__, found), (thing.__class__, thing))
