"""Plain runs: played at once, or live as machines."""

from loadanywhere.errors import Ended, NoDeed
from loadanywhere.plainsteps import begun, check_answers


def played(image, places, answers):
    run = begun(image, places)
    check_answers(answers)
    run.give(answers)
    if not run.over:
        return run.heard + [("wait",)]
    return run.heard


class Machine:
    """A plain run, live: each give is a deed that can be undone."""

    def __init__(self, image, places):
        self.runs = [begun(image, places)]
        self.deeds = 0

    def give(self, answers):
        check_answers(answers)
        run = self.runs[self.deeds].copied()
        if run.over and len(answers) > 0:
            raise Ended()
        stood = len(run.heard)
        run.give(answers)
        self.runs = self.runs[:self.deeds + 1] + [run]
        self.deeds += 1
        return run.heard[stood:]

    def undo(self):
        if self.deeds == 0:
            raise NoDeed()
        self.deeds -= 1
        return len(self.runs[self.deeds].heard)

    def again(self):
        if self.deeds + 1 == len(self.runs):
            raise NoDeed()
        self.deeds += 1
        return len(self.runs[self.deeds].heard)

    def registers(self):
        return tuple(self.runs[self.deeds].held)

    def at(self):
        return self.runs[self.deeds].spot

    def words(self):
        return dict(self.runs[self.deeds].memory)

    def events(self):
        return list(self.runs[self.deeds].heard)
