"""Processes: free runs whose modules are opened and closed while they run."""

from loadanywhere.errors import BadStart, Ended, NoDeed
from loadanywhere.freetold import shown_state
from loadanywhere.holdings import start_of
from loadanywhere.lateruns import late_led
from loadanywhere.pieces import kinds_of
from loadanywhere.plainsteps import check_answers
from loadanywhere.spaces import Space, space_at


def begun_at(shelf, root, name):
    """The run in a new space of root that begins at what name means."""
    space = Space(shelf, root)
    start = start_of(space, name)
    for module in space.loaded():
        if kinds_of(shelf.module(module).content.pieces()).get(start[0]) == "data":
            raise BadStart(start)
    return late_led(space, start)


class Process:
    """A run with its space, live: gives, opens and closes are deeds that can be undone."""

    def __init__(self, shelf, root, name):
        self.runs = [begun_at(shelf, root, name)]
        self.deeds = 0

    def change(self, run):
        self.runs = self.runs[:self.deeds + 1] + [run]
        self.deeds += 1

    def give(self, answers):
        check_answers(answers)
        run = self.runs[self.deeds].copied()
        if run.over and len(answers) > 0:
            raise Ended()
        stood = len(run.heard)
        run.give(answers)
        self.change(run)
        return run.heard[stood:]

    def bring(self, name, ahead=False):
        run = self.runs[self.deeds].copied()
        run.bring(name, ahead)
        self.change(run)

    def close(self, name):
        run = self.runs[self.deeds].copied()
        run.close(name)
        self.change(run)

    def space(self):
        run = self.runs[self.deeds]
        return space_at(run.shelf, run.root, run.scene_now)

    def state(self):
        return shown_state(self.runs[self.deeds].free)

    def events(self):
        return list(self.runs[self.deeds].heard)

    def undo(self):
        if self.deeds == 0:
            raise NoDeed()
        self.deeds -= 1
        return len(self.runs[self.deeds].heard)

    def again(self):
        if self.deeds + 1 == len(self.runs):
            raise NoDeed()
        self.deeds += 1
        return len(self.runs[self.deeds].heard)
