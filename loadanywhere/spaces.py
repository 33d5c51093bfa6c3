"""Spaces: what is loaded of a shelf, live."""

from loadanywhere.scopes import brought, called, closed, first_scene, ordered_links, scope_of, told_address


class Space:
    """Scenes of a shelf, one behind the other, of which one stands."""

    def __init__(self, shelf, root):
        self.shelf = shelf
        self.root = root
        self.scenes = [first_scene(shelf, root)]
        self.deeds = 0

    def scene(self):
        return self.scenes[self.deeds]

    def change(self, scene):
        self.scenes = self.scenes[:self.deeds + 1] + [scene]
        self.deeds += 1

    def bring(self, name, ahead=False):
        self.change(brought(self.shelf, self.scene(), name, ahead))

    def close(self, name):
        self.change(closed(self.shelf, self.scene(), name, [], []))

    def call(self, name, wanted):
        elder = self.scene()
        scene = called(self.shelf, elder, name, wanted)
        if len(scene.links) > len(elder.links):
            self.change(scene)
        target = scene.links[(name, wanted)]
        if target is None:
            return None
        return (target, told_address(self.shelf, target, wanted))

    def opened(self):
        return list(self.scene().roots)

    def scope(self):
        return scope_of(self.shelf, self.scene().roots)

    def loaded(self):
        return list(self.scene().present)

    def bound(self):
        return ordered_links(self.shelf, self.scene())

    def undo(self):
        if self.deeds == 0:
            return False
        self.deeds -= 1
        return True

    def again(self):
        if self.deeds + 1 == len(self.scenes):
            return False
        self.deeds += 1
        return True

    def copy(self):
        other = Space(self.shelf, self.root)
        other.scenes = list(self.scenes)
        other.deeds = self.deeds
        return other


def space_at(shelf, root, scene):
    """A space that stands so, with nothing to take back or do again."""
    space = Space(shelf, root)
    space.scenes = [scene]
    return space
