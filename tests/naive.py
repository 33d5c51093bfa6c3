"""Runs followed a second way, word by word as the document tells them, to hold the program against."""

import random

from loadanywhere.images import Image, laid
from loadanywhere.sums import address_of, minus, plus
from loadanywhere.words import coded, instruction

LONG = ("askfar", "gofar", "set", "callfar")


def naive_plain(image, places, answers):
    """The events of a plain run, and the registers and words behind it."""
    words = laid(image, places)
    piece_at = {}
    for p, kind, sums in image.pieces():
        for k in range(len(sums)):
            piece_at[places[p] + k] = (p, kind)
    at = places[image.first[0]] + image.first[1]
    r = [0] * 8
    events = []
    answers = list(answers)
    done = 0
    while True:
        if done == 10000:
            return events + [("silent",)], r, words
        if at not in words or piece_at[at][1] != "code" or instruction(words[at]) is None:
            return events + [("fall", at)], r, words
        called, x, y, d = instruction(words[at])
        if called in LONG and piece_at.get(at + 1) != piece_at[at]:
            return events + [("fall", at)], r, words
        following = words.get(at + 1)
        behind = at + (2 if called in LONG else 1)
        if called == "stop":
            return events + [("stop",)], r, words
        if called in ("take", "ask", "askfar"):
            if not answers:
                return events + [("wait",)], r, words
            answer = answers.pop(0)
            done = 0
            if called == "take":
                r[x] = answer
                events.append(("take", answer))
                at = behind
            else:
                events.append(("ask", answer))
                if answer:
                    at = at + d if called == "ask" else following
                else:
                    at = behind
            continue
        if called in ("load", "store"):
            place = r[y] + d
            if place not in words or (called == "store" and piece_at[place][1] == "code"):
                return events + [("fall", at)], r, words
        done += 1
        here = at
        at = behind
        if called == "tell":
            events.append(("tell", r[x]))
        elif called == "go":
            at = here + d
        elif called == "gofar":
            at = following
        elif called == "set":
            r[x] = following
        elif called == "here":
            r[x] = here + d
        elif called == "copy":
            r[x] = r[y]
        elif called == "add":
            r[x] = r[x] + r[y]
        elif called == "less":
            r[x] = r[x] - r[y]
        elif called == "load":
            r[x] = words[r[y] + d]
        elif called == "store":
            words[r[y] + d] = r[x]
        elif called == "call":
            r[7] = here + 1
            at = here + d
        elif called == "callfar":
            r[7] = here + 2
            at = following
        elif called == "jump":
            at = r[x]


def value_of(one):
    address = address_of(one)
    return ("number", plus(one, 0)) if address is None else ("at",) + address


def sum_of_value(value):
    return value[1] if value[0] == "number" else (value[2], ((("piece", value[1]), 1),))


def as_address(value):
    return value[1:] if value is not None and value[0] == "at" else None


def naive_free(image, answers, watch=None, limit=10000, begin=None):
    """The events of a free run, (at, registers, words) behind it, and how often each instruction is done.

    Watch is called ahead of each instruction with its address, what it is, the registers, the data words, and how
    many answers were given. Begin is where it stands at first, else the start: as a triple of free_state."""
    kinds = {p: kind for p, kind, _ in image.pieces()}
    fixed = {(p, k): word for p, _, words in image.pieces() for k, word in enumerate(words)}
    data = {address: value_of(word) for address, word in fixed.items() if kinds[address[0]] == "data"}
    at = image.first
    r = [("number", (0, ()))] * 8
    if begin is not None:
        at, r, data = begin[0], list(begin[1]), dict(begin[2])
    events = []
    counts = {}
    answers = list(answers)
    done = 0
    takes = 0

    def told(event):
        return events + [event], (at, tuple(r), data), counts

    given = len(answers)
    while True:
        if done == limit:
            return told(("silent",))
        lost = ("lost",) + at
        if at not in fixed or kinds[at[0]] != "code" or instruction(fixed[at]) is None:
            return told(lost)
        called, x, y, d = instruction(fixed[at])
        p, k = at
        if called in LONG and (p, k + 1) not in fixed:
            return told(lost)
        if called in ("load", "store") and not isinstance(d, int):
            return told(lost)
        behind = (p, k + 2) if called in LONG else (p, k + 1)
        if watch is not None:
            watch(at, (called, x, y, d), r, data, given - len(answers))
        if called in ("ask", "go", "here", "call"):
            aim = value_of(plus(sum_of_value(("at", p, k)), d))
        elif called in LONG:
            aim = value_of(fixed[(p, k + 1)])
        else:
            aim = None
        if called == "stop":
            counts[at] = counts.get(at, 0) + 1
            return told(("stop",))
        if called in ("ask", "askfar"):
            if not answers:
                return told(("wait",))
            answer = answers.pop(0)
            events.append(("ask", answer))
            done = 0
            if answer and as_address(aim) is None:
                return told(lost)
            counts[at] = counts.get(at, 0) + 1
            at = as_address(aim) if answer else behind
            continue
        following = behind
        if called in ("go", "gofar", "call", "callfar"):
            following = as_address(aim)
        if called == "jump":
            following = as_address(r[x])
        if following is None:
            return told(lost)
        if called in ("load", "store"):
            base = as_address(r[y])
            named = None if base is None else (base[0], base[1] + d)
            if named not in fixed or (called == "store" and named not in data):
                return told(lost)
        counts[at] = counts.get(at, 0) + 1
        done += 1
        at = following
        if called == "take":
            takes += 1
            r[x] = ("number", (0, ((("in", takes), 1),)))
            events.append(("take",))
        elif called == "tell":
            events.append(("tell", sum_of_value(r[x])))
        elif called in ("set", "here"):
            r[x] = aim
        elif called == "copy":
            r[x] = r[y]
        elif called == "add":
            r[x] = ("number", plus(sum_of_value(r[x]), sum_of_value(r[y])))
        elif called == "less":
            r[x] = ("number", minus(sum_of_value(r[x]), sum_of_value(r[y])))
        elif called == "load":
            r[x] = data[named] if named in data else value_of(fixed[named])
        elif called == "store":
            data[named] = r[x]
        elif called in ("call", "callfar"):
            r[7] = ("at",) + behind


def worth(one, worths):
    return one[0] + sum(multiple * worths[unknown] for unknown, multiple in one[1])


def random_word(rng, kind, names, length):
    """A word that is often an instruction, or the second word of one."""
    p = rng.choice(names)
    if kind == "data":
        return rng.choice([0, 1, rng.randint(-5, 5), (rng.randint(-1, 3), [(("piece", p), 1)]),
                           (2, [(("piece", p), rng.choice([-1, 2]))])])
    code = rng.choice([1, 2, 2, 3, 3, 3, 4, 5, 6, 7, 7, 7, 8, 9, 10, 10, 11, 12, 12, 13, 13, 14, 15, 16, 0, 17])
    x = rng.randint(0, 2) if code in (1, 2, 7, 8, 9, 10, 11, 12, 13, 16) else 0
    y = rng.randint(0, 2) if code in (9, 10, 11, 12, 13) else 0
    d = rng.randint(-4, 4) if code in (3, 5, 8, 14) else rng.randint(0, 2) if code in (12, 13) else 0
    if code == 16 and rng.random() < 0.5:
        x = 7
    word = coded(code, x, y, d)
    if code in (3, 5, 8, 14) and rng.random() < 0.15:
        return (word, [(("piece", p), 2048), (("piece", rng.choice(names)), -2048)])
    return word


def random_image(rng):
    names = ["a", "b", "c", "d"][:rng.randint(2, 4)]
    pieces = []
    for number, p in enumerate(names):
        kind = "code" if number == 0 or (number == 2 and rng.random() < 0.7) else "data"
        length = rng.randint(6, 16) if kind == "code" else rng.randint(1, 3)
        words = []
        while len(words) < length:
            words.append(random_word(rng, kind, names, length))
            found = instruction(words[-1])
            if kind == "code" and found is not None and found[0] in LONG and rng.random() < 0.95:
                words.append((rng.randint(0, 5), [(("piece", rng.choice(names)), 1)]))
        pieces.append((p, kind, words))
    rng.shuffle(pieces)
    return Image(pieces, ("a", rng.choice([0, 0, 1, 2])))


def random_placing(rng, image):
    """Pieces in any order, with gaps, perhaps below 0."""
    pieces = image.pieces()
    rng.shuffle(pieces)
    place = rng.randint(-3000, 3000)
    places = {}
    for p, _, words in pieces:
        place += rng.randint(0, 50)
        places[p] = place
        place += len(words)
    return places


def seeded(number):
    return random.Random(number)


def steady_image(rng, many=14, cells=4):
    """An image that goes round and round without getting lost: r3 names data, r4 where it goes on."""
    body = []
    starts = []
    for _ in range(many):
        starts.append(len(body))
        kind = rng.choice(["ask", "ask", "ask", "add", "less", "copy", "load", "store", "set", "turn", "tell", "take"])
        x, y = rng.randint(0, 2), rng.randint(0, 3)
        cell = rng.randint(0, cells - 1)
        if kind == "ask":
            body.append(("ask", rng.randint(0, many - 1)))
        elif kind == "turn":
            # Where it goes on is kept as an address, so that there are many stands.
            body.append(("set", 4, rng.randint(0, many - 1)))
            body.append(None)
            body.append(coded(16, 4))
        elif kind == "set":
            body.append(coded(7, x))
            body.append(rng.choice([rng.randint(-3, 3), (rng.randint(0, 3), [(("piece", "d"), 1)])]))
        elif kind in ("load", "store"):
            body.append(coded(12, x, 3, cell) if kind == "load" else coded(13, x, 3, cell))
        elif kind in ("tell", "take"):
            body.append(coded(2 if kind == "tell" else 1, x))
        else:
            body.append(coded({"add": 10, "less": 11, "copy": 9}[kind], x, y))
    words = [coded(7, 3), (0, [(("piece", "d"), 1)])]
    for index, word in enumerate(body):
        if word is None:
            continue
        if isinstance(word, int) or word[0] not in ("ask", "set"):
            words.append(word)
        elif word[0] == "ask":
            words.append(coded(3, 0, 0, starts[word[1]] - index))
        else:
            words += [coded(7, 4), (2 + starts[word[2]], [(("piece", "a"), 1)])]
    words.append(coded(3, 0, 0, 2 - len(words)))
    words.append(coded(5, 0, 0, 2 - len(words)))
    data = [rng.choice([0, 1, rng.randint(-3, 3), (1, [(("piece", "d"), 1)])]) for _ in range(cells)]
    return Image([("a", "code", words), ("d", "data", data)], ("a", 0))
