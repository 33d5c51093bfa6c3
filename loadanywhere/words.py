"""Code words: their fields, and the instructions that they are."""

from loadanywhere.errors import BadField
from loadanywhere.kinds import is_integer
from loadanywhere.sums import sum_of

CALLED = ("stop", "take", "tell", "ask", "askfar", "go", "gofar", "set", "here", "copy",
          "add", "less", "load", "store", "call", "callfar", "jump")

# The fields that the instruction of each code uses.
USED = ("", "x", "x", "d", "", "d", "", "x", "xd", "xy", "xy", "xy", "xyd", "xyd", "d", "", "x")

# The instructions of two words.
LONG = ("askfar", "gofar", "set", "callfar")

# The instructions whose d has to be in reach.
NEAR = ("ask", "go", "here", "call")


def is_up_to(thing, most):
    return is_integer(thing) and 0 <= thing <= most


def coded(code, x=0, y=0, d=0):
    if not is_up_to(code, 31):
        raise BadField("code")
    if not is_up_to(x, 7):
        raise BadField("x")
    if not is_up_to(y, 7):
        raise BadField("y")
    if not is_integer(d):
        raise BadField("d")
    return code + 32 * x + 256 * y + 2048 * d


def fields_in(word):
    """The fields of a sum that is in the one form already."""
    number, parts = word
    if any([multiple % 2048 != 0 for _, multiple in parts]):
        return None
    d = number // 2048
    if parts:
        d = (d, tuple([(unknown, multiple // 2048) for unknown, multiple in parts]))
    return (number % 32, number // 32 % 8, number // 256 % 8, d)


def fields(word):
    return fields_in(sum_of(word))


def instruction_in(word):
    """The instruction of a sum that is in the one form already."""
    found = fields_in(word)
    if found is None or found[0] >= len(CALLED):
        return None
    code, x, y, d = found
    used = USED[code]
    if ("x" not in used and x != 0) or ("y" not in used and y != 0) or ("d" not in used and d != 0):
        return None
    return (CALLED[code], x, y, d)


def instruction(word):
    return instruction_in(sum_of(word))
