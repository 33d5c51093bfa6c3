"""Rows of answers, each told by a number: 0 is the empty one, others are an elder one with an answer more."""


class Trails:
    """All rows of answers by which runs were followed."""

    def __init__(self):
        self.links = [(None, None)]

    def longer(self, trail, answer):
        self.links.append((trail, answer))
        return len(self.links) - 1

    def row_of_answers(self, trail):
        """The row of answers of a trail."""
        found = []
        while trail != 0:
            trail, answer = self.links[trail]
            found.append(answer)
        return tuple(list(reversed(found)))
