"""Spans: all sums of multiples, fractions among them, of rows of integers.

Rows are told as dicts from columns to the numbers there other than 0, and never changed.
"""

from math import gcd


def sparse(row):
    return {column: number for column, number in enumerate(row) if number != 0}


def dense(row, many):
    return tuple([row.get(column, 0) for column in range(many)])


def first_in(row):
    return min(list(row))


def without_divisor(row):
    """The row without a common divisor, its first number above 0."""
    divisor = 0
    for number in row.values():
        divisor = gcd(divisor, number)
        if divisor == 1:
            break
    if row and row[first_in(row)] < 0:
        divisor = -divisor
    if divisor in (0, 1):
        return row
    return {column: number // divisor for column, number in row.items()}


def with_row(row, other, many):
    """The row and so many times other."""
    found = {column: number for column, number in row.items()}
    for column, number in other.items():
        worth = found.get(column, 0) + many * number
        if worth != 0:
            found[column] = worth
        elif column in found:
            del found[column]
    return found


def cleared(row, other, column):
    """A multiple of row, less a multiple of other, that has 0 in a column in which other has not."""
    if column not in row:
        return row
    divisor = gcd(row[column], other[column])
    many = other[column] // divisor
    if many != 1:
        row = {taken: many * number for taken, number in row.items()}
    return without_divisor(with_row(row, other, -(row[column] // other[column])))


class Span:
    """Rows in steps: each first number stands in a column of its own."""

    def __init__(self):
        self.steps = {}

    def rest(self, row):
        """What is left of a row when what the span has of it is taken away: an empty one if it is in it."""
        left = without_divisor(row)
        for column in sorted(list(self.steps)):
            left = cleared(left, self.steps[column], column)
        return left

    def put(self, row):
        """Puts a row in; tells whether the span has grown by it."""
        left = self.rest(row)
        if left:
            self.steps[first_in(left)] = left
        return len(left) > 0

    def rank(self):
        return len(self.steps)

    def base(self):
        """The rows in their one form: where one begins all others have 0."""
        found = []
        for column in sorted(list(self.steps), reverse=True):
            row = self.steps[column]
            for other in found:
                row = cleared(row, other, first_in(other))
            found.append(row)
        return list(reversed(found))


def span_of(rows):
    span = Span()
    for row in rows:
        span.put(row)
    return span
