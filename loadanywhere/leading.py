"""Where runs of one image are led in another one: what both have to have, and what is held there."""

from loadanywhere.errors import BadLed, UnlikeData
from loadanywhere.kinds import read_address
from loadanywhere.pieces import kinds_of, words_of


def data_of(image):
    """The pairs (p, how many words) of the data pieces, in order."""
    return [(p, len(words)) for p, kind, words in image.pieces() if kind == "data"]


def check_data(one, other):
    """UnlikeData for the first data piece of one, then of other, in whose place the other one has no such one."""
    mine = data_of(one)
    others = data_of(other)
    for index, piece in enumerate(mine):
        if others[index:index + 1] != [piece]:
            raise UnlikeData(piece[0])
    if len(others) > len(mine):
        raise UnlikeData(others[len(mine)][0])


def code_words(image):
    """The dict of the addresses of all words of code pieces."""
    kinds = kinds_of(image.pieces())
    return {address: True for address in words_of(image.pieces()) if kinds[address[0]] == "code"}


def read_led(one, other, led):
    """The dict from addresses of words of code pieces of one to such ones of other that any object is."""
    if not isinstance(led, dict):
        raise BadLed(None)
    mine = code_words(one)
    others = code_words(other)
    found = {}
    for key in led:
        aim = read_address(led[key])
        if read_address(key) is None or key not in mine or aim is None or aim not in others:
            raise BadLed(key)
        found[read_address(key)] = aim
    return found


def kept_mark(kinds, led, mark):
    """The mark that a mark becomes; kinds are those of the pieces. None if it holds back."""
    if kinds[mark[0]] == "data":
        return mark
    return led.get(mark)


def first_held(kinds, led, marks):
    """The index of the first of some marks that holds back; None if none does."""
    for index, mark in enumerate(marks):
        if mark is not None and kept_mark(kinds, led, mark) is None:
            return index
    return None


def led_marks(kinds, led, marks):
    return tuple([None if mark is None else kept_mark(kinds, led, mark) for mark in marks])
