"""Runs side by side, each node once, in the order of the rows of answers that lead there first."""

from loadanywhere.beside import Beside, answers_to, is_lost_in
from loadanywhere.errors import Lost
from loadanywhere.trails import Trails


class Courses:
    """All nodes to which runs come from some ways on; runs whose kinds of events part go no further."""

    def __init__(self, beside):
        self.beside = beside
        self.trails = Trails()
        self.first_trails = {}
        self.waiting = []
        self.loss = None
        self.is_parted = False

    def come(self, trail, ways):
        """Follows runs by ways to the next ask, or to where they came before, end, part, or get lost."""
        while ways is not None:
            if is_lost_in(ways):
                self.loss = trail
                return
            node = self.beside.node(ways)
            if node in self.first_trails:
                return
            self.first_trails[node] = trail
            ways = self.further(trail, node)

    def further(self, trail, node):
        """The ways behind a node that needs no answer; None behind others."""
        kinds = self.beside.kinds(node)
        if any([kind != kinds[0] for kind in kinds]):
            self.is_parted = True
            return None
        if kinds[0] == "ask":
            for answer in answers_to(kinds[0]):
                self.waiting.append((self.trails.longer(trail, answer), self.beside.ways_behind(node, answer)))
            return None
        if kinds[0] in ("take", "tell"):
            return self.beside.ways_behind(node, None)
        return None

    def nodes(self):
        return list(self.first_trails)

    def truths(self, node):
        """The first row of truths that leads to a node."""
        return self.trails.row_of_answers(self.first_trails[node])


def courses_from(beside, ways):
    """The courses from some ways on, up to the first loss."""
    courses = Courses(beside)
    courses.come(0, ways)
    looked = 0
    while looked < len(courses.waiting) and courses.loss is None:
        trail, further = courses.waiting[looked]
        courses.come(trail, further)
        looked += 1
    return courses


def loss_of(courses):
    """The first row of truths by which a run of one image gets lost; None if none does."""
    if courses.loss is None:
        return None
    return courses.trails.row_of_answers(courses.loss)


def check_lost(images):
    """Lost for the first image that has a row of truths by which it gets lost."""
    for side, image in enumerate(images, start=1):
        alone = Beside([image])
        row = loss_of(courses_from(alone, alone.first_ways()))
        if row is not None:
            raise Lost(side, row)
