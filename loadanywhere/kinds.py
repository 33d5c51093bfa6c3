"""What counts as an integer, a truth, a list, a name or an address, of any object."""

LETTERS = "abcdefghijklmnopqrstuvwxyz"


def is_integer(thing):
    return isinstance(thing, int) and not isinstance(thing, bool)


def is_truth(thing):
    return isinstance(thing, bool)


def is_row(thing):
    """Lists and tuples stand for each other wherever one is passed."""
    return isinstance(thing, (list, tuple))


def is_row_of(thing, many):
    return is_row(thing) and len(thing) == many


def is_name(thing):
    if not isinstance(thing, str) or not 1 <= len(thing) <= 8:
        return False
    return all([letter in LETTERS for letter in thing])


def read_address(thing):
    """Any object as an address of a piece of any name; None if it is none."""
    if not is_row_of(thing, 2) or not is_name(thing[0]) or not is_integer(thing[1]):
        return None
    return (thing[0], thing[1])


def are_unlike_names(thing):
    if not is_row(thing) or not all([is_name(name) for name in thing]):
        return False
    return len({name: True for name in thing}) == len(thing)
