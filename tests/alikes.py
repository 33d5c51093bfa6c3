"""Images for what is alike, and spans and forms looked for a second way."""

from fractions import Fraction

from loadanywhere.errors import BadAnswer
from loadanywhere.images import Image
from loadanywhere.plainruns import played
from loadanywhere.walks import lost_row
from loadanywhere.words import coded
from tests.helpers import at
from tests.naive import naive_free, random_image, steady_image, sum_of_value

TAKE, TELL, ASK, ASKFAR, GO, GOFAR, SET, HERE, COPY, ADD, LESS, LOAD, STORE = range(1, 14)


def image(code, data=(), first=0):
    return Image([("c", "code", list(code)), ("d", "data", list(data))], ("c", first))


def summing():
    """Takes, adds up, tells the sum, again and again."""
    return image([coded(TAKE, 1), coded(ADD, 2, 1), coded(TELL, 2), coded(GO, 0, 0, -3)])


def summing_in_words():
    """The same, with twice the sum held in a data word and told less the sum in a register."""
    return Image([("x", "data", [0]), ("m", "code", [
        coded(SET, 5), at("x"), coded(TAKE, 0), coded(ADD, 3, 0), coded(LOAD, 4, 5), coded(ADD, 4, 0), coded(ADD, 4, 0),
        coded(STORE, 4, 5), coded(LESS, 4, 3), coded(TELL, 4), coded(GOFAR), at("m", 2)])], ("m", 0))


def summing_but(number):
    """The same as summing, but it tells another number behind a yes and a take."""
    return image([coded(ASK, 0, 0, 3), coded(TELL, 2), coded(GO, 0, 0, -2), coded(TAKE, 1), coded(SET, 3), number,
                  coded(ADD, 2, 3), coded(GO, 0, 0, -7)])


def mutated(rng, one):
    """An image that is perhaps alike."""
    pieces = [(p, kind, list(words)) for p, kind, words in one.pieces()]
    for _ in range(rng.randint(0, 2)):
        words = rng.choice(pieces)[2]
        index = rng.randrange(len(words))
        if rng.random() < 0.5:
            number, parts = words[index]
            words[index] = (number + rng.choice([1, -1, 32, 2048]), parts)
        else:
            words[index] = rng.choice(words)
    if rng.random() < 0.3 and len(pieces) < 5 and all(p != "zz" for p, _, _ in pieces):
        pieces.append(("zz", "data", [3]))
    if rng.random() < 0.3:
        rng.shuffle(pieces)
    return Image(pieces, one.first)


def by_chance(rng):
    if rng.random() < 0.6:
        return steady_image(rng, many=rng.randint(3, 8), cells=rng.randint(1, 3))
    return random_image(rng)


def found_by_chance(rng):
    """An image that does not get lost."""
    while True:
        one = by_chance(rng)
        if lost_row(one) is None:
            return one


def rank(rows):
    rows = [[Fraction(number) for number in row] for row in rows]
    found = 0
    for column in range(len(rows[0]) if rows else 0):
        pivot = next((index for index in range(found, len(rows)) if rows[index][column] != 0), None)
        if pivot is None:
            continue
        rows[found], rows[pivot] = rows[pivot], rows[found]
        for index in range(found + 1, len(rows)):
            factor = rows[index][column] / rows[found][column]
            rows[index] = [one - factor * other for one, other in zip(rows[index], rows[found])]
        found += 1
    return found


def is_in_span(rows, row):
    return rank(list(rows)) == rank(list(rows) + [row])


def stand_of(one, at_, registers, data):
    return (at_, tuple(value[1:] if value[0] == "at" else None for value in list(registers) + list(data.values())))


def naive_spans(one, depth):
    """The dict from talking stands to rows that span all that come there by so many answers; the rows that are left."""
    names = [p for p, _, _ in one.pieces()]
    found = {}
    firsts = {}
    rows = [()]
    for _ in range(depth + 1):
        newer = []
        for row in rows:
            def watch(at_, ins, registers, data, given, row=row):
                if given != len(row) or ins[0] not in ("take", "tell", "ask", "askfar", "stop"):
                    return
                stand = stand_of(one, at_, registers, data)
                firsts.setdefault(stand, row)
                sums = [sum_of_value(value) for value in list(registers) + list(data.values()) if value[0] == "number"]
                unknowns = {unknown for _, parts in sums for unknown, _ in parts if unknown[0] == "in"}
                rows_here = found.setdefault(stand, [])
                rows_here.append([1] + [0] * len(names) + [number for number, _ in sums])
                for unknown in [("piece", p) for p in names] + sorted(unknowns):
                    parted = [dict(parts).get(unknown, 0) for _, parts in sums]
                    rows_here.append([0] + [int(unknown == ("piece", p)) for p in names] + parted)
            if naive_free(one, list(row), watch, 150)[0][-1] == ("wait",):
                newer += [row + (False,), row + (True,)]
        rows = newer
        if len(rows) > 64:
            break
    return found, firsts, rows


def kind_waited_for(one, places, answers):
    """take or ask, if it waits behind these answers; else None."""
    if played(one, places, answers)[-1] != ("wait",):
        return None
    try:
        played(one, places, list(answers) + [True])
    except BadAnswer:
        return "take"
    return "ask"


class NaiveForm:
    """The one form, from what plain runs tell behind all answers up to some length."""

    def __init__(self, one, places, longest, behind):
        self.one = one
        self.places = places
        self.behind = behind
        self.kinds = {}
        self.events = {}
        rows = [()]
        for many in range(longest + behind + 2):
            newer = []
            for row in rows:
                self.events[row] = played(one, places, list(row))
                self.kinds[row] = kind_waited_for(one, places, row)
                if self.kinds[row] == "ask":
                    newer += [row + (False,), row + (True,)]
                if self.kinds[row] == "take":
                    newer += [row + (0,), row + (1,)]
            rows = newer
        self.spots = [spot for row in self.events if len(row) <= longest for spot in self.spots_of(row)]

    def spots_of(self, row):
        """The pairs (row, index) of the events that come behind the last answer, and of what it waits for."""
        events = self.events[row]
        begin = 0 if not row else max(index for index, event in enumerate(events) if event[0] in ("take", "ask")) + 1
        return [(row, index) for index in range(begin, len(events))]

    def kind(self, spot):
        row, index = spot
        event = self.events[row][index]
        return self.kinds[row] if event == ("wait",) else event[0]

    def next_spots(self, spot):
        row, index = spot
        kind = self.kind(spot)
        if kind == "tell":
            return [(row, index + 1)]
        if kind in ("take", "ask"):
            longer = [row + (answer,) for answer in ((0, 1) if kind == "take" else (False, True))]
            return [(one, index + 1) for one in longer]
        return []

    def seen(self, spot, many):
        """What kinds come behind a spot, and the numbers that are told, for so many further answers."""
        kind = self.kind(spot)
        told = [self.events[spot[0]][spot[1]][1]] if kind == "tell" else []
        kinds = [kind]
        if kind == "tell" or many > 0:
            for other in self.next_spots(spot):
                more = self.seen(other, many if kind == "tell" else many - 1)
                kinds.append(more[0])
                told += more[1]
        return (repr(kinds), told)

    def form(self):
        seen = {spot: self.seen(spot, self.behind) for spot in self.spots}
        truths = sorted(self.spots, key=lambda spot: (len(self.truths(spot[0])), self.truths(spot[0]), len(spot[0]), spot))
        order = []
        for spot in truths:
            if seen[spot][0] not in order:
                order.append(seen[spot][0])
        units = {key: [] for key in order}
        for spot in self.spots:
            key, told = seen[spot]
            if told and rank([seen[unit][1] for unit in units[key]] + [told]) > len(units[key]):
                units[key].append(spot)
        return tuple(self.entry(key, order, units, seen) for key in order)

    def truths(self, row):
        return tuple(answer for answer in row if isinstance(answer, bool))

    def entry(self, key, order, units, seen):
        some = [spot for spot in self.spots if seen[spot][0] == key][0]
        kind = self.kind(some)
        behind = [seen[spot][0] if spot in seen else self.seen(spot, self.behind)[0] for spot in self.next_spots(some)]
        ways = tuple(order.index(one) for one in (behind[:1] if kind == "take" else behind))
        told = tuple(self.events[row][index][1] for row, index in units[key]) if kind == "tell" else ()
        maps = tuple(tuple(self.fractions(self.next_spots(unit)[number], units[behind[number]], seen)
                           for unit in units[key]) for number in range(len(behind)))
        return (kind, ways, len(units[key]), told, maps)

    def fractions(self, spot, some, seen):
        told = self.seen(spot, self.behind)[1]
        found = solved([seen[unit][1] for unit in some], told)
        return tuple((one.numerator, one.denominator) for one in found)


def solved(rows, told):
    """The fractions of independent rows that come to what is told."""
    many = len(rows)
    table = [[Fraction(row[index]) for row in rows] + [Fraction(told[index])] for index in range(len(told))]
    found = 0
    for column in range(many):
        pivot = next(index for index in range(found, len(table)) if table[index][column] != 0)
        table[found], table[pivot] = table[pivot], table[found]
        table[found] = [one / table[found][column] for one in table[found]]
        for index in range(len(table)):
            if index != found:
                factor = table[index][column]
                table[index] = [one - factor * other for one, other in zip(table[index], table[found])]
        found += 1
    assert all(row[many] == 0 for row in table[found:])
    return [table[index][many] for index in range(many)]


def random_answers(rng, one, places, many=8):
    """Answers that fit, up to where the run ends."""
    answers = []
    for _ in range(many):
        kind = kind_waited_for(one, places, answers)
        if kind is None:
            break
        answers.append(rng.random() < 0.5 if kind == "ask" else rng.randint(-9, 9))
    return answers
