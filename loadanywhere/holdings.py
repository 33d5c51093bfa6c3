"""Why modules are held, and the words of what is loaded."""

from loadanywhere.errors import NoName
from loadanywhere.images import Image, laid
from loadanywhere.kinds import is_name, is_row
from loadanywhere.scopes import teller_of, told_address, wanted_pairs
from loadanywhere.spaces import Space
from loadanywhere.sums import sum_at
from loadanywhere.units import Unit, pieces_with


def links_of(space):
    """The dict from all links by which something is held to the pair of the modules between which they are."""
    found = {}
    for name in space.opened():
        found[("open", name)] = (None, name)
    for name in space.scope():
        for needed in space.shelf.module(name).required:
            found[("needs", name, needed)] = (name, needed)
    for (name, wanted), target in space.bound().items():
        if target is not None:
            found[("bound", name, wanted, target)] = (name, target)
    return found


def held_by(space, name):
    wanted = space.shelf.module(name).name
    links = links_of(space)
    stood = {None: []}
    newer = {None: []}
    while newer and wanted not in stood:
        newer = longer_chains(links, stood, newer)
        for reached in newer:
            stood[reached] = newer[reached]
    return stood.get(wanted)


def longer_chains(links, stood, elder):
    """The dict from the modules that chains, a link longer than elder ones, reach first to the first such chains."""
    found = {}
    for link, (name, target) in links.items():
        if name in elder and target not in stood:
            chain = elder[name] + [link]
            if target not in found or chain < found[target]:
                found[target] = chain
    return found


def read_link(thing):
    """Any object as a tuple of strings; None if it is none."""
    if not is_row(thing) or not all([isinstance(word, str) for word in thing]):
        return None
    return tuple(thing)


def is_chain(space, name, thing):
    space.shelf.module(name)
    if not is_row(thing):
        return False
    links = links_of(space)
    reached = None
    for one in thing:
        link = read_link(one)
        if link not in links or links[link][0] != reached:
            return False
        reached = links[link][1]
    return reached == name


def worths_in(space, name):
    """The dict from names to the sums that they are worth in the words of a loaded module."""
    shelf = space.shelf
    worths = {("name", own): sum_at(address) for own, address in shelf.module(name).content.told().items()}
    links = space.bound()
    for _, wanted in wanted_pairs(shelf, [name]):
        target = links.get((name, wanted))
        worths[("name", wanted)] = (0, ()) if target is None else sum_at(told_address(shelf, target, wanted))
    return worths


def loaded_pieces(space):
    found = []
    for name in space.loaded():
        found.extend(pieces_with(space.shelf.module(name).content.pieces(), worths_in(space, name)))
    return found


def loaded_unit(space):
    told = {}
    for name in space.scope():
        for own, address in space.shelf.module(name).content.told().items():
            told.setdefault(own, address)
    return Unit(loaded_pieces(space), told)


def loaded_words(space, places):
    return laid(loaded_unit(space), places)


def start_of(space, name):
    """The address that a name means in the scope of a space; NoName for any object that means nothing."""
    target = teller_of(space.shelf, space.scope(), name) if is_name(name) else None
    if target is None:
        raise NoName(name)
    return told_address(space.shelf, target, name)


def early_image(shelf, root, name):
    space = Space(shelf, root)
    for module, wanted in wanted_pairs(shelf, space.loaded()):
        if wanted in shelf.module(module).late:
            space.call(module, wanted)
    return Image(loaded_pieces(space), start_of(space, name))
