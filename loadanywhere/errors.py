"""The errors of the package: each stands right beneath WordError and keeps, by name, what it is made with."""


class WordError(ValueError):
    """What all errors of the package are."""


# Sums and code words.

class BadSum(WordError):
    def __init__(self, thing):
        self.thing = thing
class BadNumber(WordError):
    def __init__(self, number):
        self.number = number
class BadWorths(WordError):
    def __init__(self, key):
        self.key = key
class BadField(WordError):
    def __init__(self, name):
        self.name = name


# Images and runs.

class BadPiece(WordError):
    def __init__(self, index):
        self.index = index
class BadWord(WordError):
    def __init__(self, p, k):
        self.p, self.k = p, k
class BadStart(WordError):
    def __init__(self, address):
        self.address = address
class NoWord(WordError):
    def __init__(self, p, k):
        self.p, self.k = p, k
class NoPlace(WordError):
    def __init__(self, p):
        self.p = p
class Over(WordError):
    def __init__(self, p, q):
        self.p, self.q = p, q
class BadAnswer(WordError):
    def __init__(self, index):
        self.index = index
class Ended(WordError):
    """Made with nothing."""
class NoDeed(WordError):
    """Made with nothing."""
class BadGreat(WordError):
    def __init__(self, index):
        self.index = index


# Units, joining, relocation, packing and dumps.

class BadTold(WordError):
    def __init__(self, name):
        self.name = name
class SamePiece(WordError):
    def __init__(self, p):
        self.p = p
class SameName(WordError):
    def __init__(self, name):
        self.name = name
class BadReloc(WordError):
    def __init__(self, index):
        self.index = index
class NoPiece(WordError):
    def __init__(self, p):
        self.p = p
class NoName(WordError):
    def __init__(self, name):
        self.name = name
class Taken(WordError):
    def __init__(self, name):
        self.name = name
class Unbound(WordError):
    def __init__(self, name):
        self.name = name
class UnlikeKinds(WordError):
    def __init__(self, p):
        self.p = p
class Torn(WordError):
    def __init__(self, p, k):
        self.p, self.k = p, k
class BadMove(WordError):
    def __init__(self, p):
        self.p = p
class BadOffset(WordError):
    def __init__(self, index):
        self.index = index
class BadStretch(WordError):
    def __init__(self, index):
        self.index = index
class BadPieces(WordError):
    def __init__(self, index):
        self.index = index
class BadDump(WordError):
    def __init__(self, index):
        self.index = index
class NoSum(WordError):
    def __init__(self, p, k):
        self.p, self.k = p, k
class Open(WordError):
    def __init__(self, p, k):
        self.p, self.k = p, k
class BadPlacing(WordError):
    def __init__(self, index):
        self.index = index
class Gap(WordError):
    def __init__(self, p):
        self.p = p


# Moved while it runs.

class NoPoint(WordError):
    def __init__(self, point):
        self.point = point
class NoWhere(WordError):
    def __init__(self, where):
        self.where = where
class BadTable(WordError):
    """Made with nothing."""
class Strays(WordError):
    def __init__(self, answers):
        self.answers = answers
class Unsure(WordError):
    def __init__(self, p, where):
        self.p, self.where = p, where


# Layout, reach and stubs.

class BadStride(WordError):
    def __init__(self, name):
        self.name = name
class BadLot(WordError):
    def __init__(self, name):
        self.name = name
class BadOrder(WordError):
    def __init__(self, index):
        self.index = index
class BadBegin(WordError):
    def __init__(self, begin):
        self.begin = begin
class BadLayout(WordError):
    def __init__(self, layout):
        self.layout = layout
class BadHoles(WordError):
    def __init__(self, index):
        self.index = index
class BadReach(WordError):
    def __init__(self, index):
        self.index = index
class BadLast(WordError):
    def __init__(self, last):
        self.last = last
class HasStride(WordError):
    def __init__(self, name):
        self.name = name
class BadCalls(WordError):
    def __init__(self, key):
        self.key = key
class BadPlaces(WordError):
    def __init__(self, index):
        self.index = index
class BadGoals(WordError):
    def __init__(self, key):
        self.key = key
class BadRooms(WordError):
    def __init__(self, index):
        self.index = index
class BadHop(WordError):
    def __init__(self, reach):
        self.reach = reach
class OutOfReach(WordError):
    def __init__(self, index):
        self.index = index
class NoCall(WordError):
    def __init__(self, index):
        self.index = index


# Modules and spaces.

class BadModule(WordError):
    def __init__(self, part):
        self.part = part
class BadShelf(WordError):
    def __init__(self, index):
        self.index = index
class NoModule(WordError):
    def __init__(self, name):
        self.name = name
class IsOpen(WordError):
    def __init__(self, name):
        self.name = name
class NotOpen(WordError):
    def __init__(self, name):
        self.name = name
class BadAhead(WordError):
    def __init__(self, ahead):
        self.ahead = ahead
class NotBound(WordError):
    def __init__(self, name, n):
        self.name, self.n = name, n
class NotLoaded(WordError):
    def __init__(self, name):
        self.name = name
class NotLate(WordError):
    def __init__(self, n):
        self.n = n
class BadStep(WordError):
    def __init__(self, index):
        self.index = index


# Alike at all places.

class Lost(WordError):
    def __init__(self, side, answers):
        self.side, self.answers = side, answers
class BadVector(WordError):
    def __init__(self, index):
        self.index = index
class Parted(WordError):
    """Made with nothing."""
class NoPaper(WordError):
    def __init__(self, number):
        self.number = number
class NoStand(WordError):
    def __init__(self, stand):
        self.stand = stand
class Looks(WordError):
    def __init__(self, answers, mine, others):
        self.answers, self.mine, self.others = answers, mine, others


# Drafts.

class BadDraft(WordError):
    def __init__(self, index):
        self.index = index
class BadChoice(WordError):
    def __init__(self, thing):
        self.thing = thing
class NoBranch(WordError):
    def __init__(self, index):
        self.index = index
class HasEven(WordError):
    def __init__(self, index):
        self.index = index
class BadAt(WordError):
    def __init__(self, index):
        self.index = index
class TooLong(WordError):
    def __init__(self, index):
        self.index = index


# Texts.

class BadText(WordError):
    def __init__(self, thing):
        self.thing = thing
class BadRow(WordError):
    def __init__(self, number):
        self.number = number
class SameRow(WordError):
    def __init__(self, lines, n):
        self.lines, self.n = lines, n
class NotAhead(WordError):
    def __init__(self, lines, m):
        self.lines, self.m = lines, m
class NotPlain(WordError):
    def __init__(self, lines):
        self.lines = lines
class NotFit(WordError):
    def __init__(self, lines):
        self.lines = lines
class NoLabel(WordError):
    def __init__(self, lines, n):
        self.lines, self.n = lines, n
class TooFar(WordError):
    def __init__(self, lines):
        self.lines = lines
class BadFar(WordError):
    def __init__(self, p):
        self.p = p
class Clash(WordError):
    def __init__(self, n):
        self.n = n


# Lines of libraries.

class BadLine(WordError):
    def __init__(self, index):
        self.index = index
class Twice(WordError):
    def __init__(self, n, seat, other):
        self.n, self.seat, self.other = n, seat, other
class Untold(WordError):
    def __init__(self, n):
        self.n = n


# Exchanges and houses.

class UnlikeData(WordError):
    def __init__(self, p):
        self.p = p
class BadLed(WordError):
    def __init__(self, address):
        self.address = address
class HeldBack(WordError):
    def __init__(self, where):
        self.where = where
class BadName(WordError):
    def __init__(self, n):
        self.n = n
class BadKind(WordError):
    def __init__(self, kind):
        self.kind = kind
class BadThings(WordError):
    def __init__(self, index):
        self.index = index
class NoOne(WordError):
    def __init__(self, kind, n):
        self.kind, self.n = kind, n
class NoPlacing(WordError):
    """Made with nothing."""
class Seen(WordError):
    def __init__(self, why):
        self.why = why
class BadDeed(WordError):
    def __init__(self, index):
        self.index = index
class Renewed(WordError):
    def __init__(self, n):
        self.n = n
class NoHouse(WordError):
    def __init__(self, line):
        self.line = line
