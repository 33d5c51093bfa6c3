"""Plain runs whose image is exchanged while they run."""

from loadanywhere.errors import NoDeed
from loadanywhere.laps import exchanged_lap, first_lap, given_lap


class Runner:
    """A plain run, live: gives and exchanges are deeds that can be undone."""

    def __init__(self, image, places):
        self.laps = [first_lap(image, places)]
        self.deeds = 0

    def lap(self):
        return self.laps[self.deeds]

    def change(self, lap):
        self.laps = self.laps[:self.deeds + 1] + [lap]
        self.deeds += 1

    def give(self, answers):
        stood = len(self.lap().run_here.heard)
        self.change(given_lap(self.lap(), answers))
        return self.lap().run_here.heard[stood:]

    def exchange(self, other, led, places):
        self.change(exchanged_lap(self.lap(), other, led, places))
        return len(self.lap().run_here.heard)

    def undo(self):
        if self.deeds == 0:
            raise NoDeed()
        self.deeds -= 1
        return len(self.lap().run_here.heard)

    def again(self):
        if self.deeds + 1 == len(self.laps):
            raise NoDeed()
        self.deeds += 1
        return len(self.lap().run_here.heard)

    def registers(self):
        return tuple(self.lap().run_here.held)

    def at(self):
        return self.lap().run_here.spot

    def words(self):
        return dict(self.lap().run_here.memory)

    def events(self):
        return list(self.lap().run_here.heard)

    def placing(self):
        return dict(self.lap().spots)
