"""Bases of spans, in their one form."""

from loadanywhere.errors import BadVector
from loadanywhere.kinds import is_integer, is_row, is_row_of
from loadanywhere.spans import dense, span_of, sparse


def base_of(rows, many):
    if not is_row(rows):
        raise BadVector(0)
    for index, row in enumerate(rows):
        if not is_row_of(row, many) or not all([is_integer(number) for number in row]):
            raise BadVector(index)
    span = span_of([sparse(row) for row in rows])
    return tuple([dense(row, many) for row in span.base()])
