"""Sums as texts."""

from loadanywhere.errors import BadSum
from loadanywhere.sums import read_sum


def text_of_parts(parts, number):
    """The text of a number and of pairs (word, multiple), in this order."""
    found = ""
    for word, multiple in parts:
        sign = "-" if multiple < 0 else "+" if found else ""
        many = "" if abs(multiple) == 1 else f"{abs(multiple)}*"
        found += f"{sign}{many}{word}"
    if found == "":
        return str(number)
    if number == 0:
        return found
    return f"{found}+{number}" if number > 0 else f"{found}{number}"


def parts_of_sum(one):
    """The pairs (name, multiple) of the unknowns of a sum, names ascending."""
    return sorted([(of, multiple) for (_, of), multiple in one[1]])


def sum_text(one):
    found = read_sum(one)
    if found is None or any([kind == "in" for (kind, _), _ in found[1]]):
        raise BadSum(one)
    parts = parts_of_sum(found)
    if len({name: True for name, _ in parts}) < len(parts):
        raise BadSum(one)
    return text_of_parts(parts, found[0])
