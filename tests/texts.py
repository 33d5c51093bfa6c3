"""Texts assembled a second way, by rows that are put in as the document tells them; texts by chance."""

import re

from loadanywhere.errors import (
    BadRow, NoLabel, NotAhead, NotFit, NotPlain, SameRow, TooFar,
)
from loadanywhere.sums import plus, times
from loadanywhere.units import Unit
from loadanywhere.words import coded

NAME = "[a-z]{1,8}"
REGISTER = "r[0-7]"
TERM = rf"(?:(?:0|[1-9][0-9]*)(?:\*(?:{NAME}|@))?|{NAME}|@)"
SUM = rf"-?{TERM}(?:[+-]{TERM})*"
CODES = dict(stop=0, take=1, tell=2, ask=3, askfar=4, go=5, gofar=6, set=7, here=8, copy=9, add=10, less=11, load=12,
             store=13, call=14, callfar=15, jump=16)
SHAPES = dict(stop="", take="x", tell="x", copy="xx", add="xx", less="xx", jump="x", load="xxs", store="xxs", ask="s",
              go="s", call="s", here="xs", askfar="s", gofar="s", callfar="s", set="xs", askany="s", goany="s",
              callany="s", word="s+", room="n", even="n", code="p", data="p", told="p", let="pn", macro="p+", again="n",
              when="n", other="", end="")
NEAR = ("ask", "go", "call", "here")
OPEN = ("askany", "goany", "callany")


def fits(sign, word, parameters):
    if sign == "x":
        return re.fullmatch(REGISTER, word) is not None or word in parameters
    if sign == "p":
        return re.fullmatch(NAME, word) is not None and word not in SHAPES
    return re.fullmatch(SUM, word) is not None and (sign == "s" or "@" not in word)


def is_row(words, parameters):
    first, rest = words[0], words[1:]
    if first in SHAPES:
        shape = SHAPES[first]
        if shape.endswith("+"):
            shape = shape[0] * max(1, len(rest))
        if len(shape) != len(rest) or not all(fits(sign, word, parameters) for sign, word in zip(shape, rest)):
            return False
        return first != "macro" or len(set(rest[1:])) == len(rest[1:])
    if re.fullmatch(NAME + ":", first) and not rest:
        return first[:-1] not in SHAPES
    return re.fullmatch(NAME, first) is not None and all(
        re.fullmatch(REGISTER, word) or fits("n", word, ()) for word in rest)


def tree_of(text):
    """The rows as nested lists [number, words, rows, others]."""
    top, stack, wrong = [], [], []
    for number, line in enumerate(text.split("\n"), 1):
        if not line:
            continue
        words = line.split(" ")
        parameters = stack[0][1][2:] if stack and stack[0][1][0] == "macro" else []
        row = [number, words, [], None]
        if not is_row(words, parameters):
            wrong.append(number)
        elif words[0] == "end":
            if stack:
                stack.pop()
            else:
                wrong.append(number)
        elif words[0] == "other":
            if stack and stack[-1][1][0] == "when" and stack[-1][3] is None:
                stack[-1][3] = []
            else:
                wrong.append(number)
        elif stack and words[0] in ("macro", "let", "code", "data", "told"):
            wrong.append(number)
        elif words[0] in ("macro", "again", "when") and len(stack) == 6:
            wrong.append(number)
        else:
            home = top if not stack else stack[-1][2] if stack[-1][3] is None else stack[-1][3]
            home.append(row)
            if words[0] in ("macro", "again", "when"):
                stack.append(row)
    wrong += [row[0] for row in stack]
    if wrong:
        raise BadRow(min(wrong))
    return top


class Scope:
    def __init__(self, around):
        self.around = around
        self.labels = {}

    def find(self, name):
        scope = self
        while scope is not None:
            if name in scope.labels:
                return scope.labels[name]
            scope = scope.around
        return None


class Ref:
    """A name as it stands in a row: its scope, None outside, and the terms of a let, None if it is none."""

    def __init__(self, name, scope, let):
        self.name, self.scope, self.let = name, scope, let


class Naive:
    """What comes of a text: pieces [(p, kind, rows)], rows (lines, word, registers, sums or N, label)."""

    def __init__(self, text):
        self.text = text
        self.pieces, self.lets, self.macros, self.known = [], {}, {}, {}
        self.told, self.labels, self.own = [], {}, []
        self.come(tree_of(text), (), None, {}, 0)
        for lines, n in self.told:
            if n not in self.labels or not any(
                    row[1] not in ("even", ":") and (row[1] != "room" or row[3] > 0)
                    for row in self.labels[n][0][2][self.labels[n][1]:]):
                raise NoLabel(lines, n)

    def note(self, lines, name):
        if name in self.known:
            raise SameRow(lines, name)
        self.known[name] = lines

    def terms(self, word, scope, passed, lines):
        """The terms of a sum, parameters put in: pairs (multiple, 1 or "@" or Ref)."""
        found = []
        for sign, many, figures, atom in re.findall(rf"([+-]?)(?:(\d+)\*(?={NAME}|@)|(\d+)|)({NAME}|@)?", word):
            if not figures and not atom:
                continue
            multiple = (-1 if sign == "-" else 1) * int(many or figures or 1)
            if not atom:
                found.append((multiple, 1))
            elif atom == "@":
                found.append((multiple, "@"))
            elif atom in passed:
                if isinstance(passed[atom][0], int):
                    raise NotFit(lines)
                found += [(multiple * other, part) for other, part in passed[atom][0]]
            else:
                found.append((multiple, Ref(atom, scope, self.lets.get(atom))))
        return found

    def flat(self, terms):
        """The terms with lets put in, own labels passed over."""
        found = []
        for multiple, part in terms:
            if isinstance(part, Ref) and part.let is not None:
                found += [(multiple * other, inner) for other, inner in self.flat(part.let)]
            else:
                found.append((multiple, part))
        return found

    def number(self, word, scope, passed, lines, low=None, high=None):
        terms = self.flat(self.terms(word, scope, passed, lines))
        if any(part != 1 for _, part in terms):
            raise NotPlain(lines)
        found = sum(multiple for multiple, _ in terms)
        if low is not None and not low <= found <= high:
            raise NotPlain(lines)
        return found

    def come(self, rows, path, scope, passed, macro):
        for number, words, body, others in rows:
            lines = path + (number,)
            first = words[0]
            if first == "macro":
                self.note(lines, words[1])
                self.macros[words[1]] = (number, words[2:], body)
            elif first == "let":
                self.note(lines, words[1])
                self.lets[words[1]] = self.terms(words[2], None, {}, lines)
            elif first in ("code", "data"):
                self.note(lines, words[1])
                self.pieces.append((words[1], first, []))
            elif first == "told":
                if words[1] in [n for _, n in self.told]:
                    raise SameRow(lines, words[1])
                self.told.append((lines, words[1]))
            elif first == "again":
                for _ in range(self.number(words[1], scope, passed, lines, 0, 1000)):
                    self.come(body, path, Scope(scope), passed, macro)
            elif first == "when":
                chosen = body if self.number(words[1], scope, passed, lines) else others or []
                self.come(chosen, path, scope, passed, macro)
            elif first.endswith(":"):
                self.label(lines, first[:-1], scope, passed)
            elif first in SHAPES:
                self.words(lines, words, scope, passed)
            else:
                self.use(lines, words, scope, passed, macro)

    def label(self, lines, name, scope, passed):
        if not self.pieces:
            raise BadRow(lines[-1])
        if name in passed:
            if passed[name][1] is None or passed[name][1][0] in SHAPES:
                raise NotFit(lines)
            name, scope = passed[name][1]
        if scope is None:
            self.note(lines, name)
            home = self.labels
        else:
            home = scope.labels
            if name in home:
                raise SameRow(lines, name)
            self.own.append((scope, name))
        rows = self.pieces[-1][2]
        home[name] = (self.pieces[-1], len(rows))
        rows.append((lines, ":", None, None, (scope, name)))

    def use(self, lines, words, scope, passed, macro):
        if words[0] not in self.macros or (macro and self.macros[words[0]][0] >= macro):
            raise NotAhead(lines, words[0])
        number, parameters, body = self.macros[words[0]]
        if len(parameters) != len(words) - 1:
            raise NotFit(lines)
        further = {}
        for name, word in zip(parameters, words[1:]):
            bare = re.fullmatch(rf"(?:1\*)?({NAME})", word)
            if bare and bare.group(1) in passed:
                further[name] = passed[bare.group(1)]
            elif re.fullmatch(REGISTER, word):
                further[name] = (int(word[1]), None)
            else:
                further[name] = (self.terms(word, scope, passed, lines), (bare.group(1), scope) if bare else None)
        self.come(body, lines, Scope(None), further, number)

    def words(self, lines, words, scope, passed):
        first = words[0]
        if not self.pieces or (first in OPEN and self.pieces[-1][1] == "data"):
            raise BadRow(lines[-1])
        registers, sums = [], []
        for sign, word in zip(SHAPES[first].replace("s+", "s" * 1000), words[1:]):
            if sign == "x":
                place = int(word[1]) if re.fullmatch(REGISTER, word) else passed[word][0]
                if not isinstance(place, int):
                    raise NotFit(lines)
                registers.append(place)
            elif sign == "s":
                sums.append(self.terms(word, scope, passed, lines))
        if first in ("room", "even"):
            sums = self.number(words[1], scope, passed, lines, *((0, 1000) if first == "room" else (1, 64)))
        if first in OPEN:
            flat = self.flat(sums[0])
            if len(flat) != 1 or flat[0][0] != 1 or not isinstance(flat[0][1], Ref):
                raise NotPlain(lines)
            sums = flat
        self.pieces[-1][2].append((lines, first, registers, sums, None))

    # What names mean, once all is known.

    def meaning(self, ref):
        """A label (piece, index of its row), a sum, or the name of a piece or a wanted one."""
        own = ref.scope.find(ref.name) if ref.scope else None
        if own is not None:
            return own
        if ref.let is not None:
            return ref.let
        return self.labels.get(ref.name)

    def worth(self, terms, here, begins):
        """The sum of terms, labels put in by the begins of the rows of the pieces."""
        found = (0, ())
        for multiple, part in terms:
            if part == 1:
                one = (1, ())
            elif part == "@":
                one = here
            else:
                meant = self.meaning(part)
                if isinstance(meant, tuple):
                    one = (begins[meant[0][0]][meant[1]], ((("piece", meant[0][0]), 1),))
                elif meant is not None:
                    one = self.worth(meant, here, begins)
                else:
                    kind = "piece" if part.name in [p for p, _, _ in self.pieces] else "name"
                    one = (0, (((kind, part.name), 1),))
            found = plus(found, times(one, multiple))
        return found

    def leads_out(self, piece, row):
        meant = self.meaning(row[3][0][1])
        return not (isinstance(meant, tuple) and meant[0] is piece)

    def length(self, piece, row, begin, far):
        if row[1] == ":":
            return 0
        if row[1] == "even":
            return -begin % row[3]
        if row[1] == "room":
            return row[3]
        if row[1] == "word":
            return len(row[3])
        if row[1] in OPEN:
            return 2 if self.is_far(piece, row, far) else 1
        return 2 if row[1] in ("askfar", "gofar", "callfar", "set") else 1

    def is_far(self, piece, row, far):
        """Far is a dict from pieces to the numbers, among its open rows, of those that are far."""
        opens = [other for other in piece[2] if other[1] in OPEN]
        number = [other is row for other in opens].index(True)
        return number in far[piece[0]] if far and piece[0] in far else self.leads_out(piece, row)

    def begins(self, far):
        found = {}
        for piece in self.pieces:
            spots = [0]
            for row in piece[2]:
                spots.append(spots[-1] + self.length(piece, row, spots[-1], far))
            found[piece[0]] = spots
        return found

    def row_words(self, piece, row, begin, many, far, begins):
        lines, first, registers, sums, _ = row
        here = (begin, ((("piece", piece[0]), 1),))
        if first == ":":
            return []
        if first in ("even", "room"):
            return [9 if first == "even" and piece[1] == "code" else 0] * many
        worths = [self.worth(terms, here, begins) for terms in ([sums] if first in OPEN else sums)]
        if first == "word":
            return worths
        if first in OPEN:
            first = first[:-3] + ("far" if self.is_far(piece, row, far) else "")
        x, y = (registers + [0, 0])[:2]
        head = coded(CODES[first], x, y)
        if first in NEAR:
            d = plus(worths[0], times(here, -1))
            if not d[1] and not -256 <= d[0] <= 255:
                raise TooFar(lines)
            return [plus(head, times(d, 2048))]
        if first in ("load", "store"):
            return [plus(head, times(worths[0], 2048))]
        return [head] + worths

    def assembled(self, far=None):
        """The unit, and the listing."""
        begins = self.begins(far)
        pieces, listing = [], []
        for piece in self.pieces:
            p, kind, rows = piece
            words = []
            for index, row in enumerate(rows):
                begin, many = begins[p][index], begins[p][index + 1] - begins[p][index]
                words += self.row_words(piece, row, begin, many, far, begins)
                if many:
                    listing.append((row[0], p, begin, many))
            pieces.append((p, kind, words))
        told = {n: (self.labels[n][0][0], begins[self.labels[n][0][0]][self.labels[n][1]]) for _, n in self.told}
        return Unit(pieces, told), listing


# Texts by chance.

def random_sum(rng, names, has_here=False, longest=3):
    found = ""
    for _ in range(rng.choice([1, 1, 1, 2, longest])):
        atom = rng.choice(names + ["", "", str(rng.randint(0, 12))] + (["@"] if has_here else []))
        many = str(rng.choice([0, 1, 2, 3]))
        term = many if not atom else atom if atom.isdigit() or rng.random() < 0.6 else many + "*" + atom
        sign = rng.choice(["+", "+", "-"])
        found += sign + term if found else ("-" if sign == "-" and rng.random() < 0.5 else "") + term
    return found


class Texts:
    """Texts by chance, mostly right ones."""

    def __init__(self, rng):
        self.rng = rng
        self.lines = []
        self.macros = []
        self.labels = ["la", "lb", "lc", "ld"]
        self.lets = []
        self.left = list(self.labels)
        self.names = self.labels + ["main", "tab", "wa", "wb"]

    def register(self, registers):
        return self.rng.choice(registers + ["r0", "r1", "r7"])

    def row(self, names, registers, labels, numbers):
        """A row that brings words; labels are those to which branches can lead by chance."""
        rng = self.rng
        kind = rng.choice(["plain", "plain", "near", "far", "open", "open", "word", "room", "even", "load"])
        if kind == "plain":
            word = rng.choice(["stop", "take x", "tell x", "copy x x", "add x x", "less x x", "jump x"])
            return " ".join(self.register(registers) if part == "x" else part for part in word.split(" "))
        if kind == "near":
            return rng.choice(["ask ", "go ", "call ", "here " + self.register(registers) + " "]) + rng.choice(
                [rng.choice(labels), rng.choice(labels), "@+" + str(rng.randint(0, 3)), random_sum(rng, names, True)])
        if kind == "far":
            return rng.choice(["askfar ", "gofar ", "callfar ", "set r2 "]) + random_sum(rng, names, True)
        if kind == "open":
            return rng.choice(OPEN) + " " + rng.choice(["", "", "1*"]) + rng.choice(labels)
        if kind == "word":
            return "word " + " ".join(random_sum(rng, names, True) for _ in range(rng.randint(1, 3)))
        if kind == "load":
            return rng.choice(["load ", "store "]) + "r1 " + self.register(registers) + " " + random_sum(rng, names, True)
        if kind == "room":
            return "room " + rng.choice(numbers + [str(rng.choice([0, 1, 2, 5]))])
        return "even " + str(rng.choice([1, 2, 3, 4, 8]))

    def body(self, deep, names, registers, labels, numbers, usable, own):
        """Rows of a block; own are names for labels of their own, used up as they are told."""
        rng = self.rng
        found = []
        for _ in range(rng.randint(1, 4)):
            chance = rng.random()
            if chance < 0.15 and own:
                found.append(own.pop() + ":")
            elif chance < 0.3 and usable:
                found.append(self.use(rng.choice(usable), names, registers, labels, numbers))
            elif chance < 0.4 and deep < 3:
                inner = ["oa", "ob"]
                found += ["again " + rng.choice(["0", "1", "2", *numbers])]
                found += self.body(deep + 1, names + inner, registers, labels + inner, numbers, usable, inner) + ["end"]
            elif chance < 0.5 and deep < 3:
                found.append("when " + rng.choice(["0", "1", "-1", *numbers]))
                found += self.body(deep + 1, names, registers, labels, numbers, usable, own)
                if rng.random() < 0.5:
                    found += ["other"] + self.body(deep + 1, names, registers, labels, numbers, usable, own)
                found.append("end")
            else:
                found.append(self.row(names, registers, labels, numbers))
        return found

    def use(self, macro, names, registers, labels, numbers):
        rng = self.rng
        name, shape = macro
        passed = []
        for sign in shape:
            if sign == "x":
                passed.append(self.register(registers))
            elif sign == "n":
                passed.append(rng.choice(numbers + ["0", "1", "2", "3-1"]))
            elif sign == "l":
                passed.append(self.left.pop() if self.left and rng.random() < 0.9 else rng.choice(["fa", "fb", "fc"]))
            else:
                passed.append(random_sum(rng, names))
        return " ".join([name] + passed)

    def macro(self):
        rng = self.rng
        name = "m" + "abcdefgh"[len(self.macros)]
        shape = "".join(rng.choice("xnls") for _ in range(rng.randint(0, 2)))
        parameters = ["pa", "pb"][:len(shape)]
        by = {sign: [one for one, other in zip(parameters, shape) if other == sign] for sign in "xnls"}
        inner = ["oc", "od"]
        names = self.names + by["n"] + by["l"] + by["s"] + inner
        rows = self.body(1, names, by["x"], self.labels + by["l"] + inner, by["n"] + self.lets, list(self.macros),
                         inner + by["l"])
        self.lines += [" ".join(["macro", name] + parameters)] + rows + ["end"]
        self.macros.append((name, shape))

    def text(self):
        rng = self.rng
        for _ in range(rng.randint(0, 3)):
            self.macro()
        for p, kind in rng.choice([[("main", "code"), ("tab", "data")], [("tab", "data"), ("main", "code")],
                                   [("main", "code"), ("tab", "code"), ("xx", "data")]]):
            self.lines.append(kind + " " + p)
            for _ in range(rng.randint(1, 8)):
                self.outer(kind)
        while self.left:
            self.lines.append(self.left.pop() + ":")
        self.lines += ["word 3"] * (rng.random() < 0.9)
        self.lines += ["told " + n for n in rng.sample(self.labels, rng.randint(0, 1))]
        if rng.random() < 0.2:
            self.lines.insert(rng.randint(0, len(self.lines)), "")
        return "\n".join(self.lines)

    def outer(self, kind):
        rng = self.rng
        chance = rng.random()
        if chance < 0.2 and self.left:
            self.lines.append(self.left.pop() + ":")
        elif chance < 0.25:
            self.lines.append("")
        elif chance < 0.32 and len(self.lets) < 3:
            n = ["ka", "kb", "oc"][len(self.lets)]
            self.lines.append(f"let {n} " + rng.choice([str(rng.randint(0, 3)), random_sum(rng, self.names)]))
            self.lets.append(n)
            self.names.append(n)
        elif kind == "data" and chance < 0.95:
            self.lines.append(rng.choice(["room 2", "even 4", "word " + random_sum(rng, self.names, True)]))
        elif chance < 0.5 and self.macros:
            self.lines.append(self.use(rng.choice(self.macros), self.names, [], self.labels, self.lets))
        elif chance < 0.6:
            self.lines += self.body(0, self.names, [], self.labels, self.lets, self.macros, [])
        else:
            row = self.row(self.names, [], self.labels, self.lets)
            self.lines.append("word 7" if kind == "data" and row.split(" ")[0] in OPEN else row)


def random_text(rng):
    return Texts(rng).text()


def bent_text(rng, text):
    """A text with a line or a word otherwise."""
    lines = text.split("\n")
    index = rng.randrange(len(lines))
    words = lines[index].split(" ")
    chance = rng.random()
    if chance < 0.2:
        del lines[index]
    elif chance < 0.4:
        lines.insert(index, rng.choice(lines))
    elif chance < 0.5:
        lines[index] = rng.choice(["end", "other", "again 1", "when 0", "stop stop", " ", "ma", "goany la+1", "room ka",
                                   "macro ma", "told la", "even 65", "code main", "let ka 5", "mb r1 la", "word", "@"])
    else:
        words[rng.randrange(len(words))] = rng.choice(["r1", "la", "ka", "pa", "oc", "5", "2*la", "r8", "stop", "@", "x-",
                                                       "-1", "ma", "01", "wa+1", "1*la", ""])
        lines[index] = " ".join(words)
    return "\n".join(lines)
