"""Drafts: rows that are told before it is known how long their branches are."""

from itertools import combinations

from loadanywhere.draftrows import (
    HIGHEST, LOWEST, is_too_long, labels_in, meanings_of, measured, read_rows, words_of_row,
)
from loadanywhere.errors import BadAt, BadChoice, BadDraft, HasEven, NoBranch, NoName, TooLong
from loadanywhere.kinds import is_integer, is_name, is_row, is_row_of


def grown_from(parts, aims, far):
    """The branches that are far when all near ones that are too long became so again and again."""
    far = list(far)
    while True:
        longer = too_long_ones(parts, aims, far)
        if not longer:
            return tuple(sorted(far))
        far.extend(longer)


def way_in(aims, offsets, index):
    return offsets[aims[index]] - offsets[index]


def too_long_ones(parts, aims, far):
    """The near branches that are too long if these are far."""
    offsets = measured(parts, far)
    return [index for index in aims if index not in far and is_too_long(way_in(aims, offsets, index))]


def without_one(row, index):
    return tuple([other for other in row if other != index])


def is_ascending(row):
    return all([one < other for one, other in zip(row, row[1:])])


class Draft:
    """Rows with labels; aims are the rows of the labels to which branches lead, for those that do not lead out."""

    def __init__(self, rows):
        self.parts = tuple(read_rows(rows))
        labels = labels_in(self.parts)
        self.forks = tuple([index for index, row in enumerate(self.parts) if row[0] == "branch"])
        self.aims = {index: labels[self.parts[index][2]] for index in self.forks if self.parts[index][2] in labels}
        self.outs = tuple([index for index in self.forks if index not in self.aims])

    def __len__(self):
        return len(self.parts)

    def __eq__(self, other):
        return isinstance(other, Draft) and self.parts == other.parts

    def rows(self):
        return list(self.parts)

    def branches(self):
        return self.forks

    def chosen(self, thing):
        """Any object as a choice; BadChoice if it is none."""
        if not is_row(thing) or not all([is_integer(index) and index in self.forks for index in thing]):
            raise BadChoice(thing)
        choice = tuple(sorted(list(thing)))
        if not is_ascending(choice) or not all([index in choice for index in self.outs]):
            raise BadChoice(thing)
        return choice

    def offsets(self, choice):
        return measured(self.parts, self.chosen(choice))

    def way(self, choice, index):
        far = self.chosen(choice)
        if not is_integer(index) or index not in self.forks:
            raise NoBranch(index)
        if index not in self.aims:
            return None
        return way_in(self.aims, measured(self.parts, far), index)

    def fits(self, choice):
        return not too_long_ones(self.parts, self.aims, self.chosen(choice))

    def grown(self):
        return grown_from(self.parts, self.aims, self.outs)

    def all_fits(self):
        found = []
        for many in range(len(self.aims) + 1):
            choices = [tuple(sorted(list(self.outs + some))) for some in combinations(list(self.aims), many)]
            found.extend([choice for choice in sorted(choices) if not too_long_ones(self.parts, self.aims, choice)])
        return found

    def many_fits(self):
        return len(self.all_fits())

    def least(self):
        return min(self.all_fits(), key=lambda choice: measured(self.parts, choice)[-1])

    def tight(self):
        fitting = {choice: True for choice in self.all_fits()}
        found = []
        for choice in fitting:
            nearer = [without_one(choice, index) for index in choice if index in self.aims]
            if not any([other in fitting for other in nearer]):
                found.append(choice)
        return found

    def shrunk(self):
        choice = self.forks
        while True:
            nearer = [index for index in choice if index in self.aims and self.fits(without_one(choice, index))]
            if not nearer:
                return choice
            choice = without_one(choice, nearer[0])

    def check_even(self):
        for index, row in enumerate(self.parts):
            if row[0] == "even":
                raise HasEven(index)

    def reasons(self):
        self.check_even()
        found = []
        far = []
        while True:
            longer = too_long_ones(self.parts, self.aims, list(self.outs) + far)
            if not longer:
                return found
            found.extend([(index, tuple(sorted(far))) for index in longer])
            far.extend(longer)

    def is_reason(self, thing, earlier):
        """Whether any object is a reason behind earlier ones, of which these are the indexes."""
        if not is_row_of(thing, 2) or not is_integer(thing[0]) or not is_row(thing[1]):
            return False
        index, others = thing
        if index not in self.aims or index in earlier:
            return False
        if not all([is_integer(other) and (other in self.outs or other in earlier) for other in others]):
            return False
        return is_ascending(others) and index in too_long_ones(self.parts, self.aims, list(others) + list(self.outs))

    def are_reasons(self, thing):
        self.check_even()
        if not is_row(thing):
            return False
        earlier = []
        for one in thing:
            if not self.is_reason(one, earlier):
                return False
            earlier.append(one[0])
        return True

    def check_at(self, at, most):
        if not is_integer(at) or not 0 <= at <= most:
            raise BadAt(at)

    def room(self, at):
        self.check_even()
        self.check_at(at, len(self.parts))
        far = self.grown()
        offsets = measured(self.parts, far)
        left = []
        for index, aim in self.aims.items():
            if index not in far and index < at <= aim:
                left.append(HIGHEST - way_in(self.aims, offsets, index))
            if index not in far and aim < at <= index:
                left.append(way_in(self.aims, offsets, index) - LOWEST)
        return min(left, default=None)

    def put(self, at, row):
        self.check_at(at, len(self.parts))
        try:
            return Draft(list(self.parts[:at]) + [row] + list(self.parts[at:]))
        except BadDraft:
            raise BadDraft(at) from None

    def without(self, at):
        self.check_at(at, len(self.parts) - 1)
        return Draft(self.parts[:at] + self.parts[at + 1:])

    def regrown(self, at, row):
        newer = self.put(at, row).grown()
        elder = [index if index < at else index + 1 for index in self.grown()]
        far = tuple([index for index in newer if index not in elder and index != at])
        return (far, tuple([index for index in elder if index not in newer]))

    def coded_words(self, p, choice):
        if not is_name(p):
            raise NoName(p)
        far = self.chosen(choice)
        longer = too_long_ones(self.parts, self.aims, far)
        if longer:
            raise TooLong(longer[0])
        offsets = measured(self.parts, far)
        meanings = meanings_of(self.parts, offsets, p)
        found = []
        for index, row in enumerate(self.parts):
            found.extend(words_of_row(row, index, far, offsets, meanings))
        return found
