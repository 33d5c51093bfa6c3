"""Free runs in a space: late names are bound as loads take their slots, modules come and go."""

from loadanywhere.errors import NotBound
from loadanywhere.freeled import Led
from loadanywhere.freenumbers import SumNumbers
from loadanywhere.freeruns import REGISTERS, FreeRun, Program, named_word
from loadanywhere.holdings import loaded_pieces
from loadanywhere.scopes import brought, called, closed, told_address
from loadanywhere.spaces import space_at


def module_of_pieces(shelf, present):
    """The dict from the pieces of these modules to the modules."""
    return {p: name for name in present for p, _, _ in shelf.module(name).content.pieces()}


def slots_of(shelf, name):
    """The dict from the slots of a module, before any is bound, to the module and the late name."""
    module = shelf.module(name)
    found = {}
    for address, (_, parts) in module.content.sums.items():
        for (kind, wanted), _ in parts:
            if kind == "name" and wanted in module.late:
                found[address] = (name, wanted)
    return found


class LateLed(Led):
    """A free run that is led by answers, with the scene in which it goes and the slots that still are such."""

    def __init__(self, free, shelf, root, scene_now):
        super().__init__(free)
        self.shelf = shelf
        self.root = root
        self.scene_now = scene_now
        self.slots = {}

    def copied(self):
        other = LateLed(self.free.copied(), self.shelf, self.root, self.scene_now)
        other.since = self.since
        other.heard = list(self.heard)
        other.over = self.over
        other.slots = {address: pair for address, pair in self.slots.items()}
        return other

    def do(self, step):
        if step.called not in ("load", "store"):
            super().do(step)
            return
        address = named_word(self.free, step)
        if step.called == "store":
            super().do(step)
            if address in self.slots:
                del self.slots[address]
        elif address not in self.slots or self.is_bound_now(self.slots[address]):
            super().do(step)

    def is_bound_now(self, pair):
        """Binds the name of a slot, which puts what it means into all its slots; the run ends if it means nothing."""
        name, wanted = pair
        try:
            self.scene_now = called(self.shelf, self.scene_now, name, wanted)
        except NotBound:
            self.end(("unbound", name, wanted))
            return False
        target = self.scene_now.links[pair]
        value = self.free.program.begin[0]
        if target is not None:
            p, k = told_address(self.shelf, target, wanted)
            value = ("at", p, k)
        for address in [one for one in self.slots if self.slots[one] == pair]:
            self.free.held[self.free.program.wheres[address]] = value
            del self.slots[address]
        return True

    def enter(self, scene):
        """Goes over to a scene: what stays loaded stays as it is, the rest comes with its first words."""
        elder = self.scene_now.present
        modules = module_of_pieces(self.shelf, scene.present)
        pieces = loaded_pieces(space_at(self.shelf, self.root, scene))
        program = Program(pieces, self.free.program.first, self.free.program.numbers)
        held = self.free.held[:REGISTERS]
        for address, where in program.wheres.items():
            if modules[address[0]] in elder:
                held.append(self.free.held[self.free.program.wheres[address]])
            else:
                held.append(program.begin[where])
        slots = {one: pair for one, pair in self.slots.items() if pair[0] in scene.present}
        for name in scene.present:
            if name not in elder:
                slots.update(slots_of(self.shelf, name))
        free = self.free
        free.program = program
        free.held = held
        self.slots = slots
        self.scene_now = scene

    def bring(self, name, ahead):
        self.enter(brought(self.shelf, self.scene_now, name, ahead))

    def close(self, name):
        """Closes a module; what the run stands in or holds addresses of stays loaded."""
        modules = module_of_pieces(self.shelf, self.scene_now.present)
        also = [modules[self.free.spot[0]]]
        also.extend([modules[value[1]] for value in self.free.held[:REGISTERS] if value[0] == "at"])
        pairs = []
        for address, where in self.free.program.wheres.items():
            value = self.free.held[where]
            if value[0] == "at":
                pairs.append((modules[address[0]], modules[value[1]]))
        self.enter(closed(self.shelf, self.scene_now, name, also, pairs))


def late_led(space, start):
    """The run in a space that has just been made, ahead of its first instruction."""
    program = Program(loaded_pieces(space), start, SumNumbers())
    led = LateLed(FreeRun(program), space.shelf, space.root, space.scene())
    for name in space.loaded():
        led.slots.update(slots_of(space.shelf, name))
    return led
