"""The things of lines, read from any objects, and who of them comes."""

from loadanywhere.errors import BadLine
from loadanywhere.kinds import is_name, is_row, is_row_of
from loadanywhere.units import Unit


def is_member(thing):
    if not is_row_of(thing, 3) or not is_name(thing[0]) or not isinstance(thing[1], Unit) or not is_row(thing[2]):
        return False
    known = list(thing[1].told()) + thing[1].wanted()
    return all([is_name(name) and name in known for name in thing[2]])


def read_library(thing, is_right):
    """Any object as the tuple of the members, of unlike names, of a library; None if it is none."""
    if not is_row(thing) or not all([is_right(member) for member in thing]):
        return None
    members = [read_member(member) for member in thing]
    if len({member[0]: True for member in members}) < len(members):
        return None
    return tuple(members)


def read_member(thing):
    """A member with a tuple for its list of names, which stands at last."""
    return (*thing[:-1], tuple(thing[-1]))


def read_group(thing, is_right):
    if not is_row(thing):
        return None
    libraries = [read_library(library, is_right) for library in thing]
    return None if None in libraries else tuple(libraries)


def read_line_thing(thing, is_right):
    """Any object as a thing of a line, of members of one kind; None if it is none."""
    if not is_row_of(thing, 2) or not isinstance(thing[0], str):
        return None
    kind, of = thing
    found = None
    if kind == "member" and is_right(of):
        found = read_member(of)
    if kind == "library":
        found = read_library(of, is_right)
    if kind == "group":
        found = read_group(of, is_right)
    return None if found is None else (kind, found)


def read_line(line):
    """The list of the things that any object is."""
    if not is_row(line):
        raise BadLine(0)
    found = []
    for index, thing in enumerate(line):
        found.append(read_line_thing(thing, is_member))
        if found[-1] is None:
            raise BadLine(index)
    return found


class Comer:
    """One that came: its seat, its unit, the names that it tells and wants strongly, the name for which it came."""

    def __init__(self, seat, member, by):
        self.seat = seat
        self.content = member[1]
        self.by = by
        weak = member[2]
        self.tells = [name for name in self.content.told() if name not in weak]
        self.wants = [name for name in self.content.wanted() if name not in weak]


class Line:
    """Who came so far by a line, and the names that are told, and wanted strongly, by somebody of them."""

    def __init__(self, things):
        self.comers = []
        self.told_names = {}
        self.wanted_names = {}
        for index, (kind, of) in enumerate(things):
            if kind == "member":
                self.come((index, of[0]), of, None)
            elif kind == "library":
                self.go_through((index,), of)
            else:
                self.go_round(index, of)

    def come(self, seat, member, by):
        comer = Comer(seat, member, by)
        self.comers.append(comer)
        for name in comer.content.told():
            self.told_names[name] = True
        for name in comer.wants:
            self.wanted_names[name] = True

    def is_open_name(self, name):
        return name in self.wanted_names and name not in self.told_names

    def open_names(self):
        return sorted([name for name in self.wanted_names if self.is_open_name(name)])

    def all_seats(self):
        return [comer.seat for comer in self.comers]

    def next_member(self, way, members):
        """The first member that did not come and tells an open name, with this name; None if there is none."""
        stood = {seat: True for seat in self.all_seats()}
        for member in members:
            if (*way, member[0]) not in stood:
                found = [name for name in Comer((), member, None).tells if self.is_open_name(name)]
                if found:
                    return (member, min(found))
        return None

    def go_through(self, way, members):
        """Lets members of a library come; tells whether one did."""
        many = len(self.comers)
        found = self.next_member(way, members)
        while found is not None:
            self.come((*way, found[0][0]), found[0], found[1])
            found = self.next_member(way, members)
        return len(self.comers) > many

    def go_round(self, index, libraries):
        """Lets members of a group come, library by library, until nothing comes in a whole round."""
        is_new = True
        while is_new:
            is_new = False
            for number, members in enumerate(libraries):
                if self.go_through((index, number), members):
                    is_new = True
