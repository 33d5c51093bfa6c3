"""Texts written out without blocks, uses and lets, and units as texts."""

from loadanywhere.draftrows import is_too_long
from loadanywhere.errors import Clash
from loadanywhere.sums import sum_at, with_times
from loadanywhere.sumtexts import parts_of_sum, sum_text, text_of_parts
from loadanywhere.textcoming import OPEN_ROWS
from loadanywhere.textlines import FORMS, LABEL, REGISTERS
from loadanywhere.textnames import NamedText
from loadanywhere.textsums import HERE
from loadanywhere.units import bound
from loadanywhere.words import LONG, NEAR, instruction_in


def worth_text(named, worth):
    """The text of a sum, the place of the row behind all names."""
    one = named.sum_of_worth(worth)
    heres = [(HERE, worth.heres)] if worth.heres != 0 else []
    return text_of_parts(parts_of_sum(one) + heres, one[0])


def item_text(named, item):
    """The line of a row that came."""
    if item.called == LABEL:
        return f"{named.labels[item.label]}:"
    if item.called in ("code", "data"):
        return f"{item.called} {named.parts[item.piece][0]}"
    if item.called in ("room", "even"):
        return f"{item.called} {item.many}"
    if item.called in OPEN_ROWS:
        return f"{item.called} {named.aimed_name(item)}"
    words = [item.called] + [REGISTERS[number] for number in item.regs]
    return " ".join(words + [worth_text(named, worth) for worth in item.worths])


def written_out(text):
    named = NamedText(text)
    rows = [item_text(named, item) for item in named.sequence]
    return "\n".join(rows + [f"told {item.label[1]}" for item in named.coming.told_items])


def check_clash(unit):
    """Clash for the first name that stands for two things, or for a row."""
    names = [p for p, _, _ in unit.pieces()] + list(unit.told()) + unit.wanted()
    counts = {word: 1 for word in FORMS}
    for name in names:
        counts[name] = counts.get(name, 0) + 1
    for name in sorted(names):
        if counts[name] > 1:
            raise Clash(name)


def sum_in_row(called, here, d, second):
    """The sum that stands in the row of an instruction."""
    if called in LONG:
        return second
    one = (d, ()) if isinstance(d, int) else d
    return with_times(sum_at(here), one, 1) if called in NEAR else one


def row_back(words, here, labels):
    """The pair (row, how many words it brings) at an address of a code piece; None where no instruction stands."""
    p, k = here
    found = instruction_in(words[k])
    if found is None:
        return None
    called, x, y, d = found
    many = 2 if called in LONG else 1
    if many == 2 and (k + 1 == len(words) or (p, k + 1) in labels):
        return None
    if called in NEAR and isinstance(d, int) and is_too_long(d):
        return None
    regs = [x, y]
    row = [called]
    for sign in FORMS[called]:
        if sign == "x":
            row.append(REGISTERS[regs.pop(0)])
        else:
            row.append(sum_text(sum_in_row(called, here, d, words[k + many - 1])))
    return (" ".join(row), many)


def piece_back(piece, labels):
    """The rows of a piece; labels is the dict from addresses to the names that are told of them."""
    p, kind, words = piece
    found = [f"{kind} {p}"]
    k = 0
    while k < len(words):
        found.extend([f"{name}:" for name in labels.get((p, k), [])])
        back = row_back(words, (p, k), labels) if kind == "code" else None
        row, many = (f"word {sum_text(words[k])}", 1) if back is None else back
        found.append(row)
        k += many
    return found


def rows_back(unit):
    known = bound(unit)
    check_clash(known)
    labels = {}
    for name, address in known.told().items():
        labels.setdefault(address, []).append(name)
    rows = [row for piece in known.pieces() for row in piece_back(piece, labels)]
    return "\n".join(rows + [f"told {name}" for name in known.told()])
