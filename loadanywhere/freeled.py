"""Free runs that are led by answers to their asks, with their events and how often each instruction is done."""

from loadanywhere.errors import BadAnswer
from loadanywhere.kinds import is_truth
from loadanywhere.steps import LIMIT


class Led:
    """A free run that goes on from ask to ask."""

    def __init__(self, free):
        self.free = free
        self.since = 0
        self.heard = []
        self.done = {}
        self.over = False

    def end(self, event):
        self.heard.append(event)
        self.over = True

    def lose(self):
        p, k = self.free.spot
        self.end(("lost", p, k))

    def note(self, address):
        self.done[address] = self.done.get(address, 0) + 1

    def go_ahead(self):
        """Goes on to the next ask, or to the end."""
        while not self.over:
            step = self.free.step()
            if self.since == LIMIT:
                self.end(("silent",))
            elif step is None:
                self.lose()
            elif step.called == "stop":
                self.note(self.free.spot)
                self.end(("stop",))
            elif step.called == "ask":
                return
            else:
                self.do(step)

    def do(self, step):
        at = self.free.spot
        if not self.free.do(step):
            self.lose()
            return
        self.note(at)
        self.since += 1
        if step.called == "take":
            self.heard.append(("take",))
        elif step.called == "tell":
            self.heard.append(("tell", self.free.program.numbers.shown(self.free.number_of(step.x))))

    def answer(self, yes):
        """What the world says at the ask at which the run stands."""
        at = self.free.spot
        self.heard.append(("ask", yes))
        self.since = 0
        if self.free.answered(self.free.step(), yes):
            self.note(at)
        else:
            self.lose()

    def give(self, answers):
        """Goes on with answers in turn, to where none is left, or to the end."""
        self.go_ahead()
        for index, answer in enumerate(answers):
            if self.over:
                return
            if not is_truth(answer):
                raise BadAnswer(index)
            self.answer(answer)
            self.go_ahead()
