"""Sums as they are written in texts: their terms, and what they come to where rows come."""

from loadanywhere.kinds import is_name

FIGURES = "0123456789"

# The atoms of terms that are numbers, and that have the place of the row.
ONE = "1"
HERE = "@"


def is_figures(text):
    """Whether a text is an integer in decimal figures without a leading 0."""
    if text == "" or not all([sign in FIGURES for sign in text]):
        return False
    return text == "0" or text[0] != "0"


def read_term(text):
    """A text as a term (multiple, atom), the atom ONE, HERE or a name; None if it is none."""
    sign = -1 if text.startswith("-") else 1
    unsigned = text[1:] if sign < 0 else text
    if is_figures(unsigned):
        return (sign * int(unsigned), ONE)
    many, star, atom = unsigned.partition("*")
    if star == "":
        many, atom = "1", unsigned
    if not is_figures(many) or not (atom == HERE or is_name(atom)):
        return None
    return (sign * int(many), atom)


def read_terms(text):
    """A text as the tuple of the terms of a sum; None if it is none."""
    parts = text.replace("-", "+-").split("+")
    if text.startswith("-"):
        parts = parts[1:]
    terms = [read_term(part) for part in parts]
    return None if None in terms else tuple(terms)


def has_here(terms):
    return any([atom == HERE for _, atom in terms])


class Worth:
    """What a sum comes to where its row comes, parameters being put in.

    Its parts are a dict from references to names, as they mean something there, to multiples; heres is the multiple of
    the place of the row. Plain is the number that it is by its terms, None if it is no plain number; single is the pair
    (reference, multiple) if it is one term by sight, lets being put in, and this is a name, else None.
    """

    def __init__(self, number, heres, plain):
        self.number = number
        self.heres = heres
        self.plain = plain
        self.parts = {}
        self.single = None

    def put(self, other, many):
        """Adds so many times another one."""
        self.number += many * other.number
        self.heres += many * other.heres
        for part, multiple in other.parts.items():
            self.parts[part] = self.parts.get(part, 0) + many * multiple
        if self.plain is None or other.plain is None:
            self.plain = None
        else:
            self.plain += many * other.plain


def worth_of_terms(pairs):
    """The worth of a sum of the terms that these pairs (multiple, worth) are."""
    found = Worth(0, 0, 0)
    for multiple, worth in pairs:
        found.put(worth, multiple)
    if len(pairs) == 1 and pairs[0][1].single is not None:
        multiple, worth = pairs[0]
        found.single = (worth.single[0], multiple * worth.single[1])
    return found


def worth_of_name(part, let):
    """The worth of a name that is no parameter, told by its reference; let is what it stands for, or None."""
    if let is None:
        found = Worth(0, 0, None)
        found.single = (part, 1)
    else:
        found = Worth(0, 0, let.plain)
        found.single = let.single
    found.parts[part] = 1
    return found
