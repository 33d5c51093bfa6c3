"""Whether late names come to mean what they would have meant when their modules were loaded."""

from loadanywhere.kinds import are_unlike_names, is_name, is_row, is_row_of
from loadanywhere.scenesteps import behind, check_steps
from loadanywhere.scopes import (
    Scene, first_scene, held_from, linked_pairs, scope_of, teller_of, wanted_pairs,
)


class Standing:
    """A scene in which nothing was called, with what each wanted name meant when its module was loaded last."""

    def __init__(self, scene, meant):
        self.scene_here = scene
        self.meant = meant

    def form(self):
        return (self.scene_here.roots, self.scene_here.present, tuple(list(self.meant.values())))


def meaning_in(shelf, scope, name, wanted):
    """What a wanted name means in a scope: a module, None for a weak name, "not bound"."""
    target = teller_of(shelf, scope, wanted)
    if target is None and wanted not in shelf.module(name).weak:
        return "not bound"
    return target


def standing_of(shelf, scene, elder):
    """The standing of a scene one step behind that of an elder dict of what was meant."""
    scope = scope_of(shelf, scene.roots)
    meant = {}
    for name, wanted in wanted_pairs(shelf, scene.present):
        if (name, wanted) in elder:
            meant[(name, wanted)] = elder[(name, wanted)]
        else:
            meant[(name, wanted)] = meaning_in(shelf, scope, name, wanted)
    return Standing(scene, meant)


def standings_behind(shelf, standing, steps):
    """The list of the pairs of a step that does not raise there and the standing to which it leads."""
    found = []
    for step in steps:
        scene = behind(shelf, standing.scene_here, step)
        if scene is not None:
            found.append((step, standing_of(shelf, scene, standing.meant)))
    return found


def parting_of(shelf, standing):
    """The first late name, with what it meant and what it means now, for which these are unlike; None if none is."""
    scope = scope_of(shelf, standing.scene_here.roots)
    for (name, wanted), early in standing.meant.items():
        if wanted in shelf.module(name).late:
            late = meaning_in(shelf, scope, name, wanted)
            if late != early:
                return (name, wanted, early, late)
    return None


def beginning_of(shelf, root):
    return standing_of(shelf, first_scene(shelf, root), {})


def steps_without_calls(shelf, some):
    return [step for step in check_steps(shelf, some) if step[0] != "call"]


def all_standings(shelf, root, some):
    """The list of all pairs (row, standing), in the order of the least rows, up to the first that parts."""
    found = [((), beginning_of(shelf, root))]
    steps = steps_without_calls(shelf, some)
    stood = {found[0][1].form(): True}
    looked = 0
    while looked < len(found):
        row, standing = found[looked]
        if parting_of(shelf, standing) is not None:
            return found[:looked + 1]
        for step, other in standings_behind(shelf, standing, steps):
            if other.form() not in stood:
                stood[other.form()] = True
                found.append((row + (step,), other))
        looked += 1
    return found


def late_parting(shelf, root, some):
    row, standing = all_standings(shelf, root, some)[-1]
    parting = parting_of(shelf, standing)
    if parting is None:
        return None
    return (row,) + parting


def late_table(shelf, root, some):
    standings = [standing for _, standing in all_standings(shelf, root, some)]
    if parting_of(shelf, standings[-1]) is not None:
        return None
    return [(one.scene_here.roots, one.scene_here.present, one.meant) for one in standings]


def may_have_meant(shelf, name, wanted, worth):
    """Whether a wanted name of a module can have meant any object."""
    module = shelf.module(name)
    if worth is None:
        return wanted in module.weak
    if not is_name(worth):
        return isinstance(worth, str) and worth == "not bound" and wanted in module.late and wanted not in module.weak
    return worth in shelf.names() and wanted in shelf.module(worth).content.meanings


def early_links(shelf, meant):
    """What names that are not late are bound to, of what was meant."""
    return {pair: worth for pair, worth in meant.items() if pair[1] not in shelf.module(pair[0]).late}


def read_standing(shelf, thing):
    """Any object as a standing; None if it has not the form of one."""
    if not is_row_of(thing, 3) or not are_unlike_names(thing[0]) or not are_unlike_names(thing[1]):
        return None
    roots, present, told = thing
    if not isinstance(told, dict) or not all([name in shelf.names() for name in list(roots) + list(present)]):
        return None
    pairs = wanted_pairs(shelf, present)
    if len(told) != len(pairs) or not all([pair in told for pair in pairs]):
        return None
    if not all([may_have_meant(shelf, name, wanted, told[(name, wanted)]) for name, wanted in pairs]):
        return None
    meant = {pair: told[pair] for pair in pairs}
    links = early_links(shelf, meant)
    held = held_from(scope_of(shelf, roots), linked_pairs(links))
    if len(held) != len(present) or not all([name in held for name in present]):
        return None
    return Standing(Scene(tuple(roots), tuple(present), links), meant)


def shows_late(shelf, root, some, thing):
    first = beginning_of(shelf, root)
    steps = steps_without_calls(shelf, some)
    if not is_row(thing):
        return False
    standings = [read_standing(shelf, one) for one in thing]
    if None in standings:
        return False
    stood = {standing.form(): True for standing in standings}
    if first.form() not in stood:
        return False
    for standing in standings:
        if parting_of(shelf, standing) is not None:
            return False
        if not all([other.form() in stood for _, other in standings_behind(shelf, standing, steps)]):
            return False
    return True
