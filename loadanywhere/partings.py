"""The paper of two images that are alike, and a least parting of two that are not."""

from loadanywhere.beside import Beside, answers_to, numbers_to, spread, worth_by
from loadanywhere.courses import check_lost, courses_from
from loadanywhere.errors import Parted
from loadanywhere.spans import Span, with_row
from loadanywhere.trails import Trails
from loadanywhere.walks import tells_alike

# In a trail of answers, what stands for any number.
NUMBER = "number"


def alike_paper(one, other):
    check_lost([one, other])
    both = Beside([one, other])
    courses = courses_from(both, both.first_ways())
    if courses.is_parted:
        raise Parted()
    first = both.node(both.first_ways())
    spans = spread(both, [(first, both.carried(both.first_ways(), row, 0)) for row in both.first_rows()])
    if not tells_alike(both, spans):
        raise Parted()
    return [(node[0], node[1], both.told_base(node, spans[node])) for node in courses.nodes()]


class Search:
    """Looks for a parting with as few answers as there are, takes counted; rows in spans are not followed again."""

    def __init__(self, beside):
        self.beside = beside
        self.trails = Trails()
        self.spans = {}
        self.newer = []
        self.found = None

    def come(self, trail, ways, row, handed):
        """Follows a row by ways over all tells to the next answer; handed is handed in by the first way."""
        while ways is not None and self.found is None:
            node = self.beside.node(ways)
            row = self.beside.carried(ways, row, handed)
            handed = 0
            ways = self.further(trail, node, row)

    def further(self, trail, node, row):
        """The ways behind a tell that tells nothing apart by a row that is new there; None behind others."""
        kinds = self.beside.kinds(node)
        if kinds[0] != kinds[1]:
            self.found = trail
            return None
        if not self.spans.setdefault(node, Span()).put(row):
            return None
        if kinds[0] == "tell":
            if worth_by(self.beside.told_apart(node), row) != 0:
                self.found = trail
            return self.beside.ways_behind(node, None)
        for answer in answers_to(kinds[0]):
            longer = self.trails.longer(trail, NUMBER if kinds[0] == "take" else answer)
            for handed in numbers_to(kinds[0]):
                self.newer.append((longer, self.beside.ways_behind(node, answer), row, handed))
        return None

    def go(self, ways, rows):
        """Goes on by ways with some rows, answer by answer, until something parts or nothing is new."""
        for row in rows:
            self.come(0, ways, row, 0)
        while self.newer and self.found is None:
            waiting = self.newer
            self.newer = []
            for trail, ways, row, handed in waiting:
                self.come(trail, ways, row, handed)


class Parting:
    """What two runs tell apart where they part: the multiples of 1 and of each place, and of each number handed in."""

    def __init__(self, beside, answers):
        self.beside = beside
        self.left = list(answers)
        self.carries = beside.first_rows()
        self.handed_rows = []
        self.apart = [0] * beside.wide
        self.handed_apart = []

    def carry(self, ways):
        self.carries = [self.beside.carried(ways, row, 0) for row in self.carries]
        self.handed_rows = [self.beside.carried(ways, row, 0) for row in self.handed_rows]

    def take(self, ways):
        """Carries all rows over a take, with a further one for what it hands in."""
        self.carry(ways)
        with_one = self.beside.carried(ways, {0: 1}, 1)
        self.handed_rows.append(with_row(with_one, self.beside.carried(ways, {0: 1}, 0), -1))

    def follow(self):
        """Follows both runs by the answers up to where they part."""
        ways = self.beside.first_ways()
        self.carry(ways)
        while not self.is_here(self.beside.node(ways)):
            node = self.beside.node(ways)
            kind = self.beside.kinds(node)[0]
            answer = self.left.pop(0) if kind in ("take", "ask") else None
            ways = self.beside.ways_behind(node, None if kind == "take" else answer)
            if kind == "take":
                self.take(ways)
            else:
                self.carry(ways)

    def is_here(self, node):
        """Whether the runs part at a node; notes by what."""
        kinds = self.beside.kinds(node)
        if kinds[0] != kinds[1]:
            return True
        if kinds[0] != "tell":
            return False
        factors = self.beside.told_apart(node)
        self.apart = [worth_by(factors, row) for row in self.carries]
        self.handed_apart = [worth_by(factors, row) for row in self.handed_rows]
        return any([worth != 0 for worth in self.apart + self.handed_apart])


def one_behind_the_other(image):
    """A placing, and the end of it."""
    places = {}
    end = 0
    for p, _, words in image.pieces():
        places[p] = end
        end += len(words)
    return (places, end)


def placed_apart(images, apart):
    """Placings at which what is told apart comes to another number than 0, if it does at any."""
    laid_out = [one_behind_the_other(image) for image in images]
    spots = [(places, p, end) for places, end in laid_out for p in places]
    worth = apart[0] + sum([factor * places[p] for factor, (places, p, _) in zip(apart[1:], spots)])
    for factor, (places, p, end) in zip(apart[1:], spots):
        if worth == 0 and factor != 0:
            places[p] += end
            worth = factor * end
    return ([places for places, _ in laid_out], worth)


def numbers_handed(parting, worth):
    """The numbers to hand in: all 0, but 1 for one of them if nothing else tells the runs apart."""
    numbers = [0] * len(parting.handed_rows)
    hanging = [index for index, factor in enumerate(parting.handed_apart) if factor != 0]
    if worth == 0 and hanging:
        numbers[hanging[0]] = 1
    return numbers


def least_parting(one, other):
    check_lost([one, other])
    both = Beside([one, other])
    search = Search(both)
    search.go(both.first_ways(), both.first_rows())
    if search.found is None:
        return None
    answers = list(search.trails.row_of_answers(search.found))
    parting = Parting(both, answers)
    parting.follow()
    placings, worth = placed_apart([one, other], parting.apart)
    numbers = numbers_handed(parting, worth)
    for index, answer in enumerate(list(answers)):
        if answer == NUMBER:
            answers[index] = numbers.pop(0)
    return (tuple(answers), placings[0], placings[1])


def looks_at_places(image):
    return least_parting(image, image)
