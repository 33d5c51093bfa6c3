"""[4]: the errors."""

import inspect
import unittest

from loadanywhere import errors
from tests.helpers import any_objects

LISTED = """WordError() BadSum(thing) BadNumber(number) BadWorths(key) BadField(name) BadPiece(index) BadWord(p,k)
BadStart(address) NoWord(p,k) NoPlace(p) Over(p,q) BadAnswer(index) Ended() NoDeed() BadGreat(index) BadTold(name)
SamePiece(p) SameName(name) BadReloc(index) NoPiece(p) NoName(name) Taken(name) Unbound(name) UnlikeKinds(p) Torn(p,k)
BadMove(p) BadOffset(index) BadStretch(index) BadPieces(index) BadDump(index) NoSum(p,k) Open(p,k) BadPlacing(index)
Gap(p) NoPoint(point) NoWhere(where) BadTable() Strays(answers) Unsure(p,where) BadStride(name) BadLot(name)
BadOrder(index) BadBegin(begin) BadLayout(layout) BadHoles(index) BadReach(index) BadLast(last) HasStride(name)
BadCalls(key) BadPlaces(index) BadGoals(key) BadRooms(index) BadHop(reach) OutOfReach(index) NoCall(index)
BadModule(part) BadShelf(index) NoModule(name) IsOpen(name) NotOpen(name) BadAhead(ahead) NotBound(name,n)
NotLoaded(name) NotLate(n) BadStep(index) Lost(side,answers) BadVector(index) Parted() NoPaper(number) NoStand(stand)
Looks(answers,mine,others) BadDraft(index) BadChoice(thing) NoBranch(index) HasEven(index) BadAt(index) TooLong(index)
BadText(thing) BadRow(number) SameRow(lines,n) NotAhead(lines,m) NotPlain(lines) NotFit(lines) NoLabel(lines,n)
TooFar(lines) BadFar(p) Clash(n) BadLine(index) Twice(n,seat,other) Untold(n) UnlikeData(p) BadLed(address)
HeldBack(where) BadName(n) BadKind(kind) BadThings(index) NoOne(kind,n) NoPlacing() Seen(why) BadDeed(index)
Renewed(n) NoHouse(line)"""


def listed():
    for word in LISTED.split():
        name, _, rest = word[:-1].partition("(")
        yield getattr(errors, name), [part for part in rest.split(",") if part]


class Errors(unittest.TestCase):
    def test_each_stands_right_beneath(self):
        self.assertEqual(errors.WordError.__bases__, (ValueError,))
        for error, _ in listed():
            if error is not errors.WordError:
                self.assertEqual(error.__bases__, (errors.WordError,), error)
            self.assertEqual(error.__module__, "loadanywhere.errors")

    def test_no_others(self):
        found = [thing for _, thing in inspect.getmembers(errors, inspect.isclass)]
        self.assertEqual(len(found), 102)
        self.assertEqual({one.__name__ for one in found}, {error.__name__ for error, _ in listed()})

    def test_made_by_place_with_any_objects(self):
        for error, names in listed():
            for thing in any_objects():
                things = [thing] + [[thing, number] for number in range(len(names))][1:]
                things = things[:len(names)]
                made = error(*things)
                for name, one in zip(names, things):
                    self.assertIs(getattr(made, name), one)

    def test_made_by_names_in_another_order(self):
        for error, names in listed():
            things = {name: [name] for name in reversed(names)}
            made = error(**things)
            for name in names:
                self.assertIs(getattr(made, name), things[name])

    def test_raised_and_caught(self):
        for error, names in listed():
            with self.assertRaises(ValueError):
                raise error(*[None] * len(names))

    def test_not_made_with_more_or_fewer(self):
        with self.assertRaises(TypeError):
            errors.Over("a")
        with self.assertRaises(TypeError):
            errors.BadSum(1, 2)


if __name__ == "__main__":
    unittest.main()
