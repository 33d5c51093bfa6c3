"""The one form of an image that does not look at its places: equal for images that are alike."""

from math import gcd

from loadanywhere.beside import Beside, answers_to, numbers_to, worth_by
from loadanywhere.courses import courses_from
from loadanywhere.errors import Looks
from loadanywhere.partings import looks_at_places
from loadanywhere.spans import Span, first_in, with_row
from loadanywhere.sures import with_handed


def check_looks(image):
    parting = looks_at_places(image)
    if parting is not None:
        answers, mine, others = parting
        raise Looks(answers, mine, others)


def numbered(keys):
    """The dict from nodes to numbers, the same ones for equal keys, in the order in which these come first."""
    numbers = {}
    for key in keys.values():
        numbers.setdefault(key, len(numbers))
    return {node: numbers[key] for node, key in keys.items()}


class Classes:
    """The talking stands of an image, parted into classes by the kinds of events that come behind them."""

    def __init__(self, image):
        self.beside = Beside([image])
        self.side = self.beside.sides[0]
        self.nodes_here = courses_from(self.beside, self.beside.first_ways()).nodes()
        self.order = {node: index for index, node in enumerate(self.nodes_here)}
        self.kinds_here = {node: self.beside.kinds(node)[0] for node in self.nodes_here}
        self.classes = self.parted()

    def nodes_behind(self, node):
        """The nodes behind a node, answer by answer."""
        ways = [self.beside.ways_behind(node, answer) for answer in answers_to(self.kinds_here[node])]
        return [self.beside.node(way) for way in ways]

    def parted(self):
        """The dict from nodes to the numbers of their classes: parted by what stands behind until nothing parts."""
        elder = {}
        classes = numbered(self.kinds_here)
        while classes != elder:
            elder = classes
            behind = {node: tuple([elder[other] for other in self.nodes_behind(node)]) for node in elder}
            classes = numbered({node: (elder[node], behind[node]) for node in elder})
        return classes

    def members(self):
        """The list of the lists of the nodes of each class."""
        found = []
        for node, number in self.classes.items():
            if number == len(found):
                found.append([])
            found[number].append(node)
        return found

    def column(self, node, column):
        """The column that one of a node is where each node has columns of its own."""
        return self.order[node] * self.beside.broad + column

    def told(self, nodes):
        """The factors by which runs at a class of tells tell their number."""
        found = {}
        for node in nodes:
            for column, factor in self.side.told(node[0]).items():
                found[self.column(node, column)] = factor
        return found

    def at_node(self, node, factors):
        """The factors of one node, of those of a class."""
        begin = self.column(node, 0)
        return {column - begin: factor for column, factor in factors.items()
                if begin <= column < begin + self.beside.broad}

    def pulled_back(self, nodes, answer, factors):
        """The factors, for 0 and for 1 handed in, by which runs at a class lead to what factors tell behind it."""
        found = {}
        handed_in = {}
        for node in nodes:
            way = self.side.way_behind(node[0], answer)
            if way.kind != "silent":
                parts, handed = with_handed(self.at_node((way.goal,), factors), way, self.side.seats)
                found.update({self.column(node, column): factor for column, factor in parts.items()})
                if handed != 0:
                    handed_in[self.column(node, 0)] = handed
        return [found, with_row(found, handed_in, 1)]


def needed_factors(classes):
    """For each class the list of independent factors by which all is told that is told behind it."""
    members = classes.members()
    spans = [Span() for _ in members]
    ahead = {}
    work = []
    for number, nodes in enumerate(members):
        kind = classes.kinds_here[nodes[0]]
        if kind == "tell":
            work.append((number, classes.told(nodes)))
        for answer, node in zip(answers_to(kind), classes.nodes_behind(nodes[0])):
            ahead.setdefault(classes.classes[node], []).append((number, answer))
    while work:
        number, factors = work.pop()
        if spans[number].put(factors):
            for other, answer in ahead.get(number, []):
                for rows in classes.pulled_back(members[other], answer, factors):
                    work.append((other, rows))
    return [span.base() for span in spans]


class Units:
    """For each class the first runs by which its dimensions come."""

    def __init__(self, classes):
        self.classes = classes
        self.factors = needed_factors(classes)
        self.spans = [Span() for _ in self.factors]
        self.runs = [[] for _ in self.factors]
        self.waiting = []

    def sight(self, node, row):
        """What a row of a node comes to by all that is needed behind it: a row of numbers."""
        factors = self.factors[self.classes.classes[node]]
        worths = [worth_by(self.classes.at_node(node, one), row) for one in factors]
        return {index: worth for index, worth in enumerate(worths) if worth != 0}

    def is_unit(self, node, row):
        """Whether a run is none of sums of the units of its class; it is one then."""
        number = self.classes.classes[node]
        many = len(self.factors[number])
        seen = self.sight(node, row)
        left = self.spans[number].rest(seen)
        if not left or first_in(left) >= many:
            return False
        # What is told apart by the units is put beside them, so that others can be told as sums of them.
        seen[many + len(self.runs[number])] = 1
        self.spans[number].put(seen)
        self.runs[number].append((node, row))
        return True

    def rows_behind(self, node, row):
        """For each way, for a take for 0 and for 1, the pair of the node and the row behind."""
        beside = self.classes.beside
        kind = self.classes.kinds_here[node]
        found = []
        for answer in answers_to(kind):
            ways = beside.ways_behind(node, answer)
            found.extend([(beside.node(ways), beside.carried(ways, row, handed)) for handed in numbers_to(kind)])
        return found

    def come(self, node, row):
        """Follows a run as long as it is a unit where it comes, over all tells."""
        while self.is_unit(node, row):
            behind = self.rows_behind(node, row)
            if self.classes.kinds_here[node] != "tell":
                self.waiting.extend(behind)
                return
            node, row = behind[0]

    def go(self):
        """Follows all runs from the start, in the order of choices of their answers."""
        beside = self.classes.beside
        ways = beside.first_ways()
        self.come(beside.node(ways), beside.carried(ways, beside.first_rows()[0], 0))
        looked = 0
        while looked < len(self.waiting):
            node, row = self.waiting[looked]
            self.come(node, row)
            looked += 1

    def as_units(self, node, row):
        """The tuple of the fractions of the units of its class that a run is."""
        number = self.classes.classes[node]
        begin = len(self.factors[number])
        many = len(self.runs[number])
        row = self.sight(node, row)
        row[begin + many] = 1
        left = self.spans[number].rest(row)
        scale = left[begin + many]
        return tuple([fraction(-left.get(begin + index, 0), scale) for index in range(many)])


def fraction(top, bottom):
    divisor = gcd(top, bottom)
    if bottom < 0:
        divisor = -divisor
    return (top // divisor, bottom // divisor)


def told_by(classes, nodes, runs):
    """What the units of a class tell."""
    if classes.kinds_here[nodes[0]] != "tell":
        return ()
    return tuple([worth_by(classes.side.told(node[0]), row) for node, row in runs])


def maps_of(units, runs, many):
    """For each way, unit by unit, the fractions of the units behind."""
    behind = [units.rows_behind(node, row) for node, row in runs]
    return tuple([tuple([units.as_units(found[index][0], found[index][1]) for found in behind])
                  for index in range(many)])


def one_form(image):
    check_looks(image)
    classes = Classes(image)
    units = Units(classes)
    units.go()
    found = []
    for number, nodes in enumerate(classes.members()):
        kind = classes.kinds_here[nodes[0]]
        ways = tuple([classes.classes[node] for node in classes.nodes_behind(nodes[0])])
        runs = units.runs[number]
        maps = maps_of(units, runs, len(answers_to(kind)) * len(numbers_to(kind)))
        found.append((kind, ways, len(runs), told_by(classes, nodes, runs), maps))
    return tuple(found)
