"""Steps of a space, read from any objects and taken."""

from loadanywhere.errors import BadStep, IsOpen, NotBound, NotLoaded, NotOpen
from loadanywhere.kinds import is_row
from loadanywhere.scopes import brought, called, closed


def read_step(shelf, thing):
    """Any object as a step of the modules and late names of a shelf; None if it is none."""
    if not is_row(thing) or not all([isinstance(word, str) for word in thing]):
        return None
    step = tuple(thing)
    if len(step) not in (2, 3) or step[1] not in shelf.names():
        return None
    if len(step) == 2 and step[0] in ("open", "ahead", "close"):
        return step
    if len(step) == 3 and step[0] == "call" and step[2] in shelf.module(step[1]).late:
        return step
    return None


def read_steps(shelf, steps):
    """The list of the steps that things are, None for those that are none; BadStep(0) for no list."""
    if not is_row(steps):
        raise BadStep(0)
    return [read_step(shelf, thing) for thing in steps]


def check_steps(shelf, some):
    """The list of unlike steps that any object is."""
    found = {}
    for index, step in enumerate(read_steps(shelf, some)):
        if step is None or step in found:
            raise BadStep(index)
        found[step] = True
    return list(found)


def behind(shelf, scene, step):
    """The scene behind a step; None if the step raises there."""
    try:
        if step[0] == "close":
            return closed(shelf, scene, step[1], [], [])
        if step[0] == "call":
            return called(shelf, scene, step[1], step[2])
        return brought(shelf, scene, step[1], step[0] == "ahead")
    except (IsOpen, NotOpen, NotBound, NotLoaded):
        return None
