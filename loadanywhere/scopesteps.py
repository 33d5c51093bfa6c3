"""All rows of steps, and what names can come to mean by them."""

from loadanywhere.errors import BadStep, NotBound, NotLate, NotLoaded
from loadanywhere.kinds import is_name
from loadanywhere.scenesteps import behind, check_steps, read_steps
from loadanywhere.scopes import called, first_scene, ordered_links
from loadanywhere.spaces import space_at


def stepped(shelf, root, steps):
    scene = first_scene(shelf, root)
    for index, step in enumerate(read_steps(shelf, steps)):
        scene = None if step is None else behind(shelf, scene, step)
        if scene is None:
            raise BadStep(index)
    return space_at(shelf, root, scene)


def form_of(shelf, scene):
    """What two scenes have in common just if spaces with them stand alike."""
    return (scene.roots, scene.present, tuple(list(ordered_links(shelf, scene).items())))


def all_scenes(shelf, root, some):
    """The list of all pairs (row, scene), in the order of the least rows."""
    found = [((), first_scene(shelf, root))]
    steps = check_steps(shelf, some)
    stood = {form_of(shelf, found[0][1]): True}
    looked = 0
    while looked < len(found):
        row, scene = found[looked]
        for step in steps:
            other = behind(shelf, scene, step)
            if other is not None and form_of(shelf, other) not in stood:
                stood[form_of(shelf, other)] = True
                found.append((row + (step,), other))
        looked += 1
    return found


def spaces(shelf, root, some):
    return [(row, space_at(shelf, root, scene)) for row, scene in all_scenes(shelf, root, some)]


def meaning_by_call(shelf, scene, name, wanted):
    """What a late name is bound to behind a call: a module, None, or "not bound"."""
    try:
        return called(shelf, scene, name, wanted).links[(name, wanted)]
    except NotBound:
        return "not bound"


def meanings(shelf, root, some, name, wanted):
    scenes = all_scenes(shelf, root, some)
    module = shelf.module(name)
    if not is_name(wanted) or wanted not in module.late:
        raise NotLate(wanted)
    found = {}
    is_loaded = False
    for row, scene in scenes:
        if name in scene.present:
            is_loaded = True
            found.setdefault(meaning_by_call(shelf, scene, name, wanted), row)
    if not is_loaded:
        raise NotLoaded(name)
    return found
