"""Relocation: the multiples of words, what moves change, and which near words are in reach."""

from math import gcd

from loadanywhere.bases import base_of
from loadanywhere.errors import BadMove, BadReloc, NoPiece, NoPlace, Over
from loadanywhere.images import laid
from loadanywhere.kinds import is_integer, is_row, is_row_of, read_address
from loadanywhere.pieces import check_piece, kinds_of, words_of
from loadanywhere.sums import one_form, read_unknown, worth_at
from loadanywhere.units import Unit
from loadanywhere.words import NEAR, instruction_in


def relocations(unit):
    return [(p, k, unknown, multiple) for p, _, words in unit.pieces() for k, word in enumerate(words)
            for unknown, multiple in word[1]]


def plain(unit):
    pieces = [(p, kind, [word[0] for word in words]) for p, kind, words in unit.pieces()]
    return Unit(pieces, unit.told())


def read_row(thing, sums, kinds):
    """Any object as a row (address, unknown, multiple) of a unit with these words and pieces, or None."""
    if not is_row_of(thing, 4) or not is_integer(thing[3]):
        return None
    address = read_address((thing[0], thing[1]))
    unknown = read_unknown(thing[2])
    if address is None or address not in sums or unknown is None or unknown[0] == "in":
        return None
    if unknown[0] == "piece" and unknown[1] not in kinds:
        return None
    return (address, unknown, thing[3])


def mended(unit, rows):
    if not is_row(rows):
        raise BadReloc(0)
    sums = words_of(unit.pieces())
    kinds = kinds_of(unit.pieces())
    added = {address: {unknown: multiple for unknown, multiple in sums[address][1]} for address in sums}
    for index, thing in enumerate(rows):
        row = read_row(thing, sums, kinds)
        if row is None:
            raise BadReloc(index)
        address, unknown, multiple = row
        added[address][unknown] = added[address].get(unknown, 0) + multiple
    pieces = [(p, kind, [one_form(word[0], added[(p, k)]) for k, word in enumerate(words)])
              for p, kind, words in unit.pieces()]
    return Unit(pieces, unit.told())


def check_moves(pieces, moves):
    """NoPiece for the first key that is no piece, then BadMove for the first worth that is no integer."""
    if not isinstance(moves, dict):
        raise NoPiece(None)
    for p in moves:
        check_piece(pieces, p)
    for p in moves:
        if not is_integer(moves[p]):
            raise BadMove(p)


def shift(image, moves):
    check_moves(image.pieces(), moves)
    found = {}
    for p, k, (_, q), multiple in relocations(image):
        found[(p, k)] = found.get((p, k), 0) + multiple * moves.get(q, 0)
    return {address: found[address] for address in found if found[address] != 0}


def hangs_on(image, p):
    check_piece(image.pieces(), p)
    return [(q, k) for q, k, unknown, _ in relocations(image) if unknown == ("piece", p)]


def needs_of(image):
    """For each word, in one form, the row of the multiples of the pieces: it has to add up to 0 for a move."""
    names = [p for p, _, _ in image.pieces()]
    rows = {}
    for _, _, words in image.pieces():
        for _, parts in words:
            multiples = {unknown[1]: multiple for unknown, multiple in parts}
            rows[tuple([multiples.get(p, 0) for p in names])] = True
    return base_of(list(rows), len(names))


def free_move(needs, many, free):
    """The move that lays the piece of the column free further, and others that begin no row of needs by none."""
    least = 1
    for row in needs:
        number = row[first_column(row)]
        least = least * number // gcd(least, number)
    move = [0] * many
    move[free] = least
    for row in needs:
        move[first_column(row)] = -row[free] * least // row[first_column(row)]
    return move


def first_column(row):
    return [column for column, number in enumerate(row) if number != 0][0]


def free_moves(image):
    many = len(image.pieces())
    needs = needs_of(image)
    begun = [first_column(row) for row in needs]
    moves = [free_move(needs, many, column) for column in range(many) if column not in begun]
    return list(base_of(moves, many))


def tied(image):
    moves = free_moves(image)
    lots = {}
    for column, (p, _, _) in enumerate(image.pieces()):
        by = tuple([move[column] for move in moves])
        lots[by] = [*lots.get(by, []), p]
    return [tuple(lot) for lot in lots.values()]


def near_ds(image):
    """The pairs (address, d), d a sum in the one form, of all near code words."""
    found = []
    for p, kind, words in image.pieces():
        for k, word in enumerate(words):
            near = instruction_in(word)
            if kind == "code" and near is not None and near[0] in NEAR:
                d = near[3]
                found.append(((p, k), (d, ()) if isinstance(d, int) else d))
    return found


def is_in_reach(d):
    return -256 <= d <= 255


def misfits(image, places):
    laid(image, places)
    return [address for address, d in near_ds(image) if not is_in_reach(worth_at(d, places))]


def always_near(image):
    # A d with a place in it goes out of reach as that piece is laid far away.
    return all([not d[1] and is_in_reach(d[0]) for _, d in near_ds(image)])


def fitting(image, places):
    try:
        return not misfits(image, places)
    except (NoPlace, Over):
        return False
