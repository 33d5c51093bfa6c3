"""What a house keeps: sources, lines, images and runs by their names, and what was made of them."""

from loadanywhere.assembling import assembled
from loadanywhere.deadparts import struck
from loadanywhere.errors import BadThings
from loadanywhere.kinds import is_integer, is_name, is_row, is_row_of
from loadanywhere.lineup import linked
from loadanywhere.linethings import read_line_thing
from loadanywhere.units import image_of

KINDS = ("source", "line", "image", "run")

# Where code pieces come to lie that are put in for others, and how far apart such places are.
FIRST_PLACE = 1000000
PLACE_STEP = 1000


def is_house_member(thing):
    """Whether any object is the name of a source with a list of names."""
    if not is_row_of(thing, 2) or not is_name(thing[0]) or not is_row(thing[1]):
        return False
    return all([is_name(name) for name in thing[1]])


def read_things(things):
    """The tuple of the things of a line that any object is, members as names of sources."""
    if not is_row(things):
        raise BadThings(0)
    found = []
    for index, thing in enumerate(things):
        found.append(read_line_thing(thing, is_house_member))
        if found[-1] is None:
            raise BadThings(index)
    return tuple(found)


def members_in(thing):
    """The members of a thing, in order."""
    kind, of = thing
    if kind == "member":
        return [of]
    if kind == "library":
        return list(of)
    return [member for members in of for member in members]


def sources_in(things):
    """The names of the sources of some things, in order."""
    return [member[0] for thing in things for member in members_in(thing)]


def with_unit(member, units):
    return (member[0], units[member[0]], member[1])


def with_units(things, units):
    """The things of a line with the units of their sources."""
    found = []
    for kind, of in things:
        if kind == "member":
            found.append((kind, with_unit(of, units)))
        elif kind == "library":
            found.append((kind, tuple([with_unit(member, units) for member in of])))
        else:
            found.append((kind, tuple([tuple([with_unit(member, units) for member in members]) for members in of])))
    return found


def make_unit(text):
    return assembled(text)


def make_line(things):
    return linked(things)


def make_image(basis):
    unit, root = basis
    return image_of(struck(unit, [root]), root)


# How each kind is made: of a text, of things with units, of a linked unit and a root.
MAKERS = {"source": make_unit, "line": make_line, "image": make_image}


class Making:
    """What something was made from last, and what came of it: None if it could not be made."""

    def __init__(self, basis):
        self.basis = basis
        self.result = None


class HouseRun:
    """A run: the name of its image, where its pieces were laid at first, its lap, whether it was renewed."""

    def __init__(self, image_name, first_spots, lap, is_renewed):
        self.image_name = image_name
        self.first_spots = first_spots
        self.lap_here = lap
        self.is_renewed = is_renewed

    def at_lap(self, lap, is_renewed):
        return HouseRun(self.image_name, self.first_spots, lap, self.is_renewed or is_renewed)


class Inside:
    """What stood behind each deed, the deeds by their methods, how many of them stand, what was made."""

    def __init__(self):
        self.keeps = [{kind: {} for kind in KINDS}]
        self.methods = []
        self.standing = 0
        self.makings = {}
        self.newly = []

    def copied(self):
        other = Inside()
        other.keeps = list(self.keeps)
        other.methods = list(self.methods)
        other.standing = self.standing
        other.makings = {key: self.makings[key] for key in self.makings}
        other.newly = list(self.newly)
        return other

    def change(self, method, kind, name, thing):
        """Does a deed: something is kept under a name, or nothing any more."""
        keep = {other: dict(of) for other, of in self.keeps[self.standing].items()}
        here = keep[kind]
        if thing is None:
            del here[name]
        else:
            here[name] = thing
        self.keeps = self.keeps[:self.standing + 1] + [keep]
        self.methods = self.methods[:self.standing] + [method]
        self.standing += 1

    def making_of(self, kind, name, basis):
        """What is made of a basis; anew if it is another one than that from which it was made last."""
        last = self.makings.get((kind, name))
        if last is None or last.basis != basis:
            last = Making(basis)
            self.makings[(kind, name)] = last
            self.newly.append((kind, name))
        if last.result is None:
            maker = MAKERS[kind]
            last.result = maker(basis)
        return last.result


def spots_beside(lap, image):
    """The places of the code pieces of an image beside all that stands at a lap."""
    taken = [(lap.spots[p], lap.spots[p] + len(words)) for p, _, words in lap.image_here.pieces()]
    found = {}
    for p, kind, words in image.pieces():
        if kind == "code":
            place = FIRST_PLACE
            while any([max(place, begin) < min(place + len(words), end) for begin, end in taken]):
                place += PLACE_STEP
            found[p] = place
            taken.append((place, place + len(words)))
    return found


def is_placing_by_names(thing):
    if not isinstance(thing, dict):
        return False
    return all([is_name(name) and is_integer(place) for name, place in thing.items()])
