"""What of a shelf is open and loaded, and what names are bound to; each step makes a new scene."""

from loadanywhere.errors import BadAhead, IsOpen, NotBound, NotLate, NotLoaded, NotOpen
from loadanywhere.kinds import is_name, is_truth
from loadanywhere.modules import group_of


class Scene:
    """The open modules as in the scope, the loaded ones as loaded, what names are bound to; it never changes."""

    def __init__(self, roots, present, links):
        self.roots = roots
        self.present = present
        self.links = links


def scope_of(shelf, roots):
    """The modules of the groups of the open ones, one group behind the other."""
    found = {}
    for root in roots:
        for name in group_of(shelf, root):
            found[name] = True
    return list(found)


def teller_of(shelf, scope, wanted):
    """The first module of a scope that tells a name; None if none does."""
    for name in scope:
        if wanted in shelf.module(name).content.meanings:
            return name
    return None


def told_address(shelf, name, wanted):
    return shelf.module(name).content.meanings[wanted]


def wanted_pairs(shelf, present):
    """All pairs (module, wanted name), by modules as loaded, then as wanted."""
    return [(name, wanted) for name in present for wanted in shelf.module(name).content.lacking]


def meant_by(shelf, scope, name, wanted):
    """The module that a wanted name means in a scope, None for nothing; NotBound if it is not weak then."""
    target = teller_of(shelf, scope, wanted)
    if target is None and wanted not in shelf.module(name).weak:
        raise NotBound(name, wanted)
    return target


def with_group(shelf, scene, name, ahead):
    """The scene behind the opening of a module that is not open."""
    roots = (name,) + scene.roots if ahead else scene.roots + (name,)
    scope = scope_of(shelf, roots)
    newer = [one for one in group_of(shelf, name) if one not in scene.present]
    links = {pair: target for pair, target in scene.links.items()}
    for one, wanted in wanted_pairs(shelf, newer):
        if wanted not in shelf.module(one).late:
            links[(one, wanted)] = meant_by(shelf, scope, one, wanted)
    return Scene(roots, scene.present + tuple(newer), links)


def first_scene(shelf, root):
    return with_group(shelf, Scene((), (), {}), shelf.module(root).name, False)


def brought(shelf, scene, name, ahead):
    shelf.module(name)
    if name in scene.roots:
        raise IsOpen(name)
    if not is_truth(ahead):
        raise BadAhead(ahead)
    return with_group(shelf, scene, name, ahead)


def held_from(names, pairs):
    """The dict of what is held by names and by pairs (module, what it holds), one behind the other."""
    held = {name: True for name in names}
    grown = True
    while grown:
        more = [target for name, target in pairs if name in held and target not in held]
        for target in more:
            held[target] = True
        grown = len(more) > 0
    return held


def linked_pairs(links):
    return [(name, target) for (name, _), target in links.items() if target is not None]


def closed(shelf, scene, name, also, pairs):
    """The scene behind a close; also are modules that are held besides, pairs what holds what besides."""
    if not is_name(name) or name not in scene.roots:
        raise NotOpen(name)
    roots = tuple([one for one in scene.roots if one != name])
    held = held_from(scope_of(shelf, roots) + also, linked_pairs(scene.links) + pairs)
    links = {pair: target for pair, target in scene.links.items() if pair[0] in held}
    return Scene(roots, tuple([one for one in scene.present if one in held]), links)


def called(shelf, scene, name, wanted):
    """The scene behind a call: the very same if the name was bound already."""
    if not is_name(name) or name not in scene.present:
        raise NotLoaded(name)
    if not is_name(wanted) or wanted not in shelf.module(name).late:
        raise NotLate(wanted)
    if (name, wanted) in scene.links:
        return scene
    links = {pair: target for pair, target in scene.links.items()}
    links[(name, wanted)] = meant_by(shelf, scope_of(shelf, scene.roots), name, wanted)
    return Scene(scene.roots, scene.present, links)


def ordered_links(shelf, scene):
    """What names are bound to, by modules as loaded, then as wanted."""
    return {pair: scene.links[pair] for pair in wanted_pairs(shelf, scene.present) if pair in scene.links}
