"""Spans: all sums of multiples, fractions among them, of rows of integers."""

from math import gcd


def without_divisor(row):
    """The row without a common divisor, its first number other than 0 above 0."""
    divisor = 0
    first = 0
    for number in row:
        divisor = gcd(divisor, number)
        if first == 0:
            first = number
    if first < 0:
        divisor = -divisor
    if divisor in (0, 1):
        return list(row)
    return [number // divisor for number in row]


def first_in(row):
    """Where the first number other than 0 stands; the length of the row if there is none."""
    for column, number in enumerate(row):
        if number != 0:
            return column
    return len(row)


def cleared(row, other, column):
    """A multiple of row, less a multiple of other, that has 0 in a column in which other has not."""
    if row[column] == 0:
        return row
    divisor = gcd(row[column], other[column])
    many = other[column] // divisor
    less = row[column] // divisor
    return without_divisor([many * number - less * taken for number, taken in zip(row, other)])


class Span:
    """Rows in steps: each first number stands in a column of its own."""

    def __init__(self):
        self.steps = {}

    def rest(self, row):
        """What is left of a row when what the span has of it is taken away: nothing but 0 if it is in it."""
        left = without_divisor(row)
        for column in sorted(list(self.steps)):
            left = cleared(left, self.steps[column], column)
        return left

    def put(self, row):
        left = self.rest(row)
        column = first_in(left)
        if column < len(left):
            self.steps[column] = left

    def rank(self):
        return len(self.steps)

    def base(self):
        """The rows in their one form: where one begins all others have 0."""
        columns = sorted(list(self.steps))
        found = []
        for column in reversed(columns):
            row = self.steps[column]
            for other in found:
                row = cleared(row, other, first_in(other))
            found.append(without_divisor(row))
        return tuple([tuple(row) for row in reversed(found)])
