"""Lists of pieces, as images and units are made of them."""

from loadanywhere.errors import BadPiece, NoPiece, NoWord
from loadanywhere.kinds import is_name, is_row, is_row_of, read_address
from loadanywhere.sums import read_sum


def read_piece(thing):
    """Any object as a piece, its words in the one form; None if it is none."""
    if not is_row_of(thing, 3):
        return None
    p, kind, words = thing
    if not is_name(p) or not isinstance(kind, str) or kind not in ("code", "data") or not is_row(words):
        return None
    sums = [read_sum(word) for word in words]
    if None in sums:
        return None
    return (p, kind, tuple(sums))


def read_pieces(pieces):
    """The list of the pieces, of unlike names, that any object is."""
    if not is_row(pieces):
        raise BadPiece(0)
    found = []
    stood = {}
    for index, thing in enumerate(pieces):
        piece = read_piece(thing)
        if piece is None or piece[0] in stood:
            raise BadPiece(index)
        stood[piece[0]] = True
        found.append(piece)
    return found


def words_of(pieces):
    """The dict from all addresses, by pieces, to their words."""
    return {(p, k): word for p, _, words in pieces for k, word in enumerate(words)}


def word_at(sums, p, k):
    """The word at an address, of the dict of all; NoWord for any objects that are no address of one."""
    address = read_address((p, k))
    if address is None or address not in sums:
        raise NoWord(p, k)
    return sums[address]


def kinds_of(pieces):
    """The dict from the names of the pieces to their kinds."""
    return {p: kind for p, kind, _ in pieces}


def check_piece(pieces, p):
    """NoPiece for any object that is no name of one of the pieces."""
    if not is_name(p) or p not in kinds_of(pieces):
        raise NoPiece(p)
