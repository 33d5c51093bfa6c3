"""Whole numbers that solve rows of integers: which multiples in each row add up to what is told."""


def reduced(columns, row):
    """Columns with the same sums of whole multiples, of which only the first one, if any, has not 0 in a row."""
    rest = [column for column in columns if column[row] == 0]
    held = [column for column in columns if column[row] != 0]
    while len(held) > 1:
        least = min(held, key=lambda column: abs(column[row]))
        others = [[number - column[row] // least[row] * taken for number, taken in zip(column, least)]
                  for column in held if column != least]
        rest += [column for column in others if column[row] == 0]
        held = [least] + [column for column in others if column[row] != 0]
    return held + rest


class Solver:
    """Rows of integers, made ready: a column has a number for each row, then how it is put together."""

    def __init__(self, rows, many):
        self.height = len(rows)
        self.many = many
        self.steps = []
        left = []
        for column in range(many):
            left.append([row[column] for row in rows] + [1 if other == column else 0 for other in range(many)])
        for row in range(self.height):
            left = reduced(left, row)
            if left and left[0][row] != 0:
                self.steps.append((row, left[0]))
                left = left[1:]
        self.kernel = [column[self.height:] for column in left]

    def solved(self, worths):
        """Whole multiples with which each row is its worth, or None if there are none."""
        left = list(worths) + [0] * self.many
        for row, column in self.steps:
            many = left[row] // column[row]
            left = [number - many * taken for number, taken in zip(left, column)]
        if any([number != 0 for number in left[:self.height]]):
            return None
        return [-number for number in left[self.height:]]

    def is_sure(self, column):
        """Whether all that solves the rows has the same number there."""
        return all([row[column] == 0 for row in self.kernel])
