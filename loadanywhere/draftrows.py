"""The rows of drafts: read from any objects, and measured once it is chosen which branches are far."""

from loadanywhere.errors import BadDraft
from loadanywhere.kinds import is_integer, is_name, is_row
from loadanywhere.sums import plus, read_sum, sum_at, with_worths
from loadanywhere.words import coded

# The codes of the near and of the far branches.
NEAR_CODES = {"ask": 3, "go": 5, "call": 14}
FAR_CODES = {"ask": 4, "go": 6, "call": 15}

# How far ahead and behind the d of a near branch reaches.
LOWEST = -256
HIGHEST = 255

# A copy of register 0 to itself, which even rows put in.
FILLER = 9


def read_words(thing):
    if not is_row(thing):
        return None
    sums = [read_sum(word) for word in thing]
    return None if None in sums else ("words", tuple(sums))


def read_branch(called, n, more):
    if not isinstance(called, str) or called not in NEAR_CODES or not is_name(n) or not is_integer(more):
        return None
    return ("branch", called, n, more)


def read_row(thing):
    """Any object as a row of a draft; None if it is none."""
    if not is_row(thing) or len(thing) not in (2, 4) or not isinstance(thing[0], str):
        return None
    if len(thing) == 4:
        return read_branch(thing[1], thing[2], thing[3]) if thing[0] == "branch" else None
    kind, of = thing
    if kind == "words":
        return read_words(of)
    if kind == "label" and is_name(of):
        return ("label", of)
    if kind == "even" and is_integer(of) and 1 <= of <= 64:
        return ("even", of)
    return None


def read_rows(rows):
    """The list of the rows of the draft that any object is."""
    if not is_row(rows):
        raise BadDraft(0)
    found = [read_row(thing) for thing in rows]
    labels = {row[1]: True for row in found if row is not None and row[0] == "label"}
    stood = {}
    for index, row in enumerate(found):
        if row is None or (row[0] == "label" and row[1] in stood):
            raise BadDraft(index)
        if row[0] == "label":
            stood[row[1]] = True
        if row[0] == "branch" and row[3] != 0 and row[2] in labels:
            raise BadDraft(index)
    return found


def length_of(row, begin, is_far):
    """How many words a row has that begins at an offset."""
    if row[0] == "words":
        return len(row[1])
    if row[0] == "even":
        return -begin % row[1]
    if row[0] == "branch":
        return 2 if is_far else 1
    return 0


def measured(rows, far):
    """The offsets of all rows, and of the end, if these branches are far."""
    found = [0]
    for index, row in enumerate(rows):
        found.append(found[-1] + length_of(row, found[-1], index in far))
    return found


def labels_in(rows):
    """The dict from labels to the numbers of their rows."""
    return {row[1]: index for index, row in enumerate(rows) if row[0] == "label"}


def is_too_long(way):
    return not LOWEST <= way <= HIGHEST


def words_of_row(row, index, far, offsets, meanings):
    """The words of a row; meanings is the dict from the labels, as unknowns, to the sums of their addresses."""
    if row[0] == "words":
        return [with_worths(word, meanings) for word in row[1]]
    if row[0] == "even":
        return [(FILLER, ())] * (offsets[index + 1] - offsets[index])
    if row[0] == "label":
        return []
    _, called, n, more = row
    name = (0, ((("name", n), 1),))
    if index in far:
        return [(coded(FAR_CODES[called]), ()), plus(with_worths(name, meanings), more)]
    way = meanings[("name", n)][0] - offsets[index]
    return [(coded(NEAR_CODES[called], 0, 0, way), ())]


def meanings_of(rows, offsets, p):
    """The dict from labels, as unknowns, to the sums of their addresses in a piece p."""
    return {("name", n): sum_at((p, offsets[index])) for n, index in labels_in(rows).items()}
