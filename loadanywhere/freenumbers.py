"""The numbers of free runs: as sums, as nothing at all, as residues, or as rows of what was held."""

from loadanywhere.spans import with_row
from loadanywhere.sums import one_form, worth_at


class SumNumbers:
    """Numbers are pairs (number, dict from unknowns to multiples), never changed once they are made."""

    def constant(self, one):
        return (one[0], {unknown: multiple for unknown, multiple in one[1]})

    def handed(self, k):
        return (0, {("in", k): 1})

    def added(self, one, other, many):
        multiples = {unknown: multiple for unknown, multiple in one[1].items()}
        for unknown, multiple in other[1].items():
            worth = multiples.get(unknown, 0) + many * multiple
            if worth == 0:
                del multiples[unknown]
            else:
                multiples[unknown] = worth
        return (one[0] + many * other[0], multiples)

    def shown(self, number):
        return one_form(number[0], number[1])


class NoNumbers:
    """Where a run goes hangs on no number, so whoever asks for that alone needs none."""

    def constant(self, one):
        return None

    def handed(self, k):
        return None

    def added(self, one, other, many):
        return None

    def shown(self, number):
        return None


class Multiples:
    """Numbers are dicts from the pieces to the multiples of their places, other than 0."""

    def constant(self, one):
        return {of: multiple for (_, of), multiple in one[1]}

    def handed(self, k):
        return {}

    def added(self, one, other, many):
        return with_row(one, other, many)

    def shown(self, number):
        return number


class Residues:
    """Numbers are their worths modulo a number, all numbers handed in being worth the same."""

    def __init__(self, spots, each, modulo):
        self.spots = spots
        self.each = each
        self.modulo = modulo

    def constant(self, one):
        return worth_at(one, self.spots) % self.modulo

    def handed(self, k):
        return self.each % self.modulo

    def added(self, one, other, many):
        return (one + many * other) % self.modulo

    def shown(self, number):
        return number


# In a row of residues, what stands for the number 1.
ONE = -1


class ResidueRows:
    """Numbers are dicts from wheres, and ONE, to how many times what they held at first is in them."""

    def __init__(self, residues):
        self.residues = residues
        self.modulo = residues.modulo

    def alone(self, worth):
        return {ONE: worth} if worth != 0 else {}

    def constant(self, one):
        return self.alone(self.residues.constant(one))

    def handed(self, k):
        return self.alone(self.residues.handed(k))

    def added(self, one, other, many):
        row = dict(one)
        for where, multiple in other.items():
            worth = (row.get(where, 0) + many * multiple) % self.modulo
            if worth != 0:
                row[where] = worth
            elif where in row:
                del row[where]
        return row

    def shown(self, number):
        return number
