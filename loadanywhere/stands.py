"""Stands, read from any objects by their form."""

from loadanywhere.kinds import is_row_of, read_address
from loadanywhere.talks import TALKING


def read_mark(seats, thing):
    """Any object as the address of one of the pieces; None if it is none."""
    mark = read_address(thing)
    if mark is None or mark[0] not in seats:
        return None
    return mark


def read_stand(talks, thing):
    """Any object as a stand at a word of a code piece; None if it has not the form of one."""
    if not is_row_of(thing, 2) or not is_row_of(thing[1], len(talks.program.begin)):
        return None
    at = read_address(thing[0])
    if at not in talks.program.steps:
        return None
    marks = []
    for one in thing[1]:
        mark = read_mark(talks.numbers.seats, one)
        if one is not None and mark is None:
            return None
        marks.append(mark)
    return (at, tuple(marks))


def read_talking(talks, thing):
    """Any object as a talking stand by its form; None if it has not the form of one."""
    if is_row_of(thing, 1) and isinstance(thing[0], str) and thing[0] == "silent":
        return ("silent",)
    stand = read_stand(talks, thing)
    if stand is None or talks.program.steps[stand[0]] is None:
        return None
    return stand if talks.program.steps[stand[0]].called in TALKING else None
