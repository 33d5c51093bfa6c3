"""Images: pieces that lie anywhere, and the address at which runs begin."""

from loadanywhere.errors import BadStart, BadWord, NoPlace, Over
from loadanywhere.kinds import is_integer, read_address
from loadanywhere.pieces import kinds_of, read_pieces, word_at, words_of
from loadanywhere.sums import worth_at


def check_words(sums, kinds):
    """BadWord for the first word with another unknown than the place of a piece."""
    for p, k in sums:
        for (kind, of), _ in sums[(p, k)][1]:
            if kind != "piece" or of not in kinds:
                raise BadWord(p, k)


class Image:
    """Pieces with a start; nothing of it changes."""

    def __init__(self, pieces, start):
        self.parts = tuple(read_pieces(pieces))
        self.sums = words_of(self.parts)
        kinds = kinds_of(self.parts)
        check_words(self.sums, kinds)
        first = read_address(start)
        if first is None or first not in self.sums or kinds[first[0]] != "code":
            raise BadStart(start)
        self.first = first

    def pieces(self):
        return list(self.parts)

    def word(self, p, k):
        return word_at(self.sums, p, k)

    def __len__(self):
        return len(self.sums)

    def __eq__(self, other):
        return isinstance(other, Image) and self.parts == other.parts and self.first == other.first


def check_places(image, places):
    """NoPlace for the first piece that has no place, an integer."""
    for p, _, _ in image.pieces():
        if not isinstance(places, dict) or not is_integer(places.get(p)):
            raise NoPlace(p)


def check_overs(spots):
    """Over for the first pair, of the triples (piece, begin, end), with words at one place."""
    for index, (p, begin, end) in enumerate(spots):
        for q, other_begin, other_end in spots[index + 1:]:
            if max(begin, other_begin) < min(end, other_end):
                raise Over(p, q)


def laid(image, places):
    check_places(image, places)
    check_overs([(p, places[p], places[p] + len(words)) for p, _, words in image.pieces()])
    found = {}
    for p, _, words in sorted(image.pieces(), key=lambda piece: places[piece[0]]):
        for k, word in enumerate(words):
            found[places[p] + k] = worth_at(word, places)
    return found
