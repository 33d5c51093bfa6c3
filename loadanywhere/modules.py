"""Modules that need one another, shelves of them, and the orders in which they begin."""

from loadanywhere.errors import BadModule, BadShelf, NoModule
from loadanywhere.kinds import are_unlike_names, is_name, is_row
from loadanywhere.units import Unit


def are_wanted(thing, unit):
    """Whether any object is a list of unlike wanted names."""
    wanted = unit.wanted()
    return are_unlike_names(thing) and all([name in wanted for name in thing])


def has_slots_alone(unit, late):
    """Whether each word with a late name is the place of it alone, once, in a data piece."""
    for _, kind, words in unit.pieces():
        for number, parts in words:
            lates = [unknown for unknown, _ in parts if unknown[0] == "name" and unknown[1] in late]
            if lates and (kind != "data" or number != 0 or len(parts) > 1 or parts[0][1] != 1):
                return False
    return True


class Module:
    """A named unit, what it needs, and which of its wanted names may lack or are bound late."""

    def __init__(self, name, unit, needs=(), weak=(), late=()):
        if not is_name(name):
            raise BadModule("name")
        if not isinstance(unit, Unit):
            raise BadModule("unit")
        if not are_unlike_names(needs):
            raise BadModule("needs")
        if not are_wanted(weak, unit):
            raise BadModule("weak")
        if not are_wanted(late, unit) or not has_slots_alone(unit, late):
            raise BadModule("late")
        self.name = name
        self.content = unit
        self.required = tuple(needs)
        self.weak = tuple([wanted for wanted in unit.wanted() if wanted in weak])
        self.late = tuple([wanted for wanted in unit.wanted() if wanted in late])

    def __eq__(self, other):
        return (isinstance(other, Module) and self.name == other.name and self.content == other.content
                and self.required == other.required and self.weak == other.weak and self.late == other.late)


def check_modules(modules):
    """BadShelf for the first thing that is no module, or that has a name or a piece of one ahead."""
    if not is_row(modules):
        raise BadShelf(0)
    names = {}
    pieces = {}
    for index, thing in enumerate(modules):
        if not isinstance(thing, Module) or thing.name in names:
            raise BadShelf(index)
        names[thing.name] = True
        for p, _, _ in thing.content.pieces():
            if p in pieces:
                raise BadShelf(index)
            pieces[p] = True


class Shelf:
    """Modules, each of another name and with pieces of its own, that need none but one another."""

    def __init__(self, modules):
        check_modules(modules)
        self.stock = {module.name: module for module in modules}
        for module in modules:
            for name in module.required:
                if name not in self.stock:
                    raise NoModule(name)

    def names(self):
        return list(self.stock)

    def module(self, name):
        if not is_name(name) or name not in self.stock:
            raise NoModule(name)
        return self.stock[name]

    def __eq__(self, other):
        return isinstance(other, Shelf) and list(self.stock.values()) == list(other.stock.values())


def group_of(shelf, name):
    group = [shelf.module(name).name]
    looked = 0
    while looked < len(group):
        for needed in shelf.module(group[looked]).required:
            if needed not in group:
                group.append(needed)
        looked += 1
    return group


def all_needs(shelf, name):
    """The dict from each module of a group to the dict of all that it needs, by way of others too."""
    found = {}
    for one in group_of(shelf, name):
        found[one] = {}
        for needed in shelf.module(one).required:
            for other in group_of(shelf, needed):
                found[one][other] = True
    return found


def rings_of(needs):
    """The rings, in the order of their first modules in the group."""
    found = []
    stood = {}
    for one in needs:
        if one not in stood:
            ring = [other for other in needs if other == one or (other in needs[one] and one in needs[other])]
            for other in ring:
                stood[other] = True
            found.append(tuple(ring))
    return found


def may_come(ring, needs, stood):
    """Whether all that the ring needs besides itself stands already."""
    return all([other in stood or other in ring for other in needs[ring[0]]])


def beginnings(shelf, name):
    needs = all_needs(shelf, name)
    left = rings_of(needs)
    stood = {}
    found = []
    while left:
        ring = [one for one in left if may_come(one, needs, stood)][-1]
        found.append(ring)
        for module in ring:
            stood[module] = True
        left = [one for one in left if one != ring]
    return found


def is_beginning(shelf, name, thing):
    needs = all_needs(shelf, name)
    if not are_unlike_names(thing) or len(thing) != len(needs):
        return False
    stood = {}
    for one in thing:
        if one not in needs:
            return False
        if not all([other in stood or one in needs[other] for other in needs[one]]):
            return False
        stood[one] = True
    return True
