"""Houses as texts, and read from them."""

from loadanywhere.errors import NoHouse, Renewed, WordError
from loadanywhere.housekeeping import KINDS
from loadanywhere.houses import House
from loadanywhere.kinds import is_name
from loadanywhere.textsums import is_figures


def source_lines(text):
    return [" " + line for line in text.split("\n")]


def member_line(blanks, member):
    return " ".join([blanks + "member", member[0], *member[1]])


def thing_lines(thing):
    kind, of = thing
    if kind == "member":
        return [member_line(" ", of)]
    if kind == "library":
        return [" library"] + [member_line("  ", member) for member in of]
    found = [" group"]
    for members in of:
        found.append("  library")
        found.extend([member_line("   ", member) for member in members])
    return found


def answer_word(answer):
    if answer is True or answer is False:
        return "yes" if answer else "no"
    return str(answer)


def run_lines(run):
    taken = [event[1] for event in run.lap_here.run_here.heard if event[0] in ("take", "ask")]
    found = [f" of {run.image_name}"]
    found.extend([f" at {p} {place}" for p, place in run.first_spots.items()])
    found.append(" ".join([" answers"] + [answer_word(answer) for answer in taken]))
    return found


def kept_lines(kind, thing):
    """The lines behind the name of what is kept."""
    if kind == "source":
        return source_lines(thing)
    if kind == "line":
        return [line for one in thing for line in thing_lines(one)]
    if kind == "image":
        return [f" of {thing[0]} {thing[1]}"]
    return run_lines(thing)


def house_text(house):
    runs = house.all_kept("run")
    for n in sorted(list(runs)):
        if runs[n].is_renewed:
            raise Renewed(n)
    found = []
    for kind in KINDS:
        things = house.all_kept(kind)
        for n in sorted(list(things)):
            found.append(f"{kind} {n}")
            found.extend(kept_lines(kind, things[n]))
    return "\n".join(found)


def read_number(word):
    """A word as an integer in decimal figures; None if it is none."""
    unsigned = word[1:] if word.startswith("-") else word
    if not is_figures(unsigned) or word == "-0":
        return None
    return int(word)


def read_answer(word):
    """A word as an answer; None if it is none."""
    if word in ("yes", "no"):
        return word == "yes"
    return read_number(word)


def without_blanks(line):
    """The pair of how many blanks stand ahead in a line, and the words behind them."""
    words = line.lstrip(" ")
    return (len(line) - len(words), words.split(" "))


class HouseReader:
    """The lines of a text, the number of the one that is looked at, from 0, and the house so far."""

    def __init__(self, lines):
        self.text_lines = lines
        self.looked = 0
        self.house = House()

    def check(self, can_stand):
        """NoHouse if the line that is looked at cannot stand there."""
        if not can_stand:
            raise NoHouse(self.looked + 1)

    def has_blank(self):
        """Whether a line with a blank ahead is looked at."""
        return self.looked < len(self.text_lines) and self.text_lines[self.looked].startswith(" ")

    def words_of(self, called, blanks):
        """The words behind the first one of the line that is looked at, if it begins so; else None."""
        if not self.has_blank():
            return None
        stood, words = without_blanks(self.text_lines[self.looked])
        return words[1:] if stood == blanks and words[0] == called else None

    def read(self):
        """Reads kind by kind, names ascending."""
        ahead = (0, "")
        while self.looked < len(self.text_lines):
            words = self.text_lines[self.looked].split(" ")
            self.check(len(words) == 2 and words[0] in KINDS and is_name(words[1]))
            head = (KINDS.index(words[0]), words[1])
            self.check(head > ahead)
            ahead = head
            self.looked += 1
            action = READINGS[words[0]]
            action(self, words[1])


def read_source(reader, n):
    reader.check(reader.has_blank())
    found = []
    while reader.has_blank():
        found.append(reader.text_lines[reader.looked][1:])
        reader.looked += 1
    reader.house.put_source(n, "\n".join(found))


def read_member_line(reader, blanks, members):
    """The member that the line that is looked at tells, behind others of its library."""
    words = reader.words_of("member", blanks)
    reader.check(words is not None and len(words) > 0 and all([is_name(word) for word in words]))
    reader.check(words[0] not in [name for name, _ in members])
    return (words[0], words[1:])


def read_thing_line(reader, things):
    """Puts what a line tells to the things of a line that stand ahead."""
    kind, of = things[-1] if things else (None, [])
    for word, empty in (("library", []), ("group", [])):
        if reader.words_of(word, 1) == []:
            things.append((word, empty))
            return
    if kind == "group" and reader.words_of("library", 2) == []:
        of.append([])
    elif kind == "group" and of and reader.words_of("member", 3) is not None:
        of[-1].append(read_member_line(reader, 3, of[-1]))
    elif kind == "library" and reader.words_of("member", 2) is not None:
        of.append(read_member_line(reader, 2, of))
    else:
        things.append(("member", read_member_line(reader, 1, [])))


def read_line_lines(reader, n):
    things = []
    while reader.has_blank():
        read_thing_line(reader, things)
        reader.looked += 1
    reader.house.put_line(n, things)


def read_image_line(reader, n):
    words = reader.words_of("of", 1)
    reader.check(words is not None and len(words) == 2 and all([is_name(word) for word in words]))
    reader.check(words[0] in reader.house.all_kept("line"))
    reader.house.put_image(n, words[0], words[1])
    reader.looked += 1


def read_places(reader):
    """The places that at lines tell."""
    found = {}
    words = reader.words_of("at", 1)
    while words is not None:
        reader.check(len(words) == 2 and is_name(words[0]) and words[0] not in found)
        found[words[0]] = read_number(words[1])
        reader.check(found[words[0]] is not None)
        reader.looked += 1
        words = reader.words_of("at", 1)
    return found


def read_run_lines(reader, n):
    words = reader.words_of("of", 1)
    reader.check(words is not None and len(words) == 1 and is_name(words[0]))
    reader.looked += 1
    places = read_places(reader)
    told = reader.words_of("answers", 1)
    reader.check(told is not None)
    answers = [read_answer(word) for word in told]
    reader.check(None not in answers)
    try:
        reader.house.start(n, words[0], places)
        if answers:
            reader.house.give(n, answers)
    except WordError:
        raise NoHouse(reader.looked + 1) from None
    reader.looked += 1


READINGS = {"source": read_source, "line": read_line_lines, "image": read_image_line, "run": read_run_lines}


def read_house(text):
    if not isinstance(text, str):
        raise NoHouse(0)
    reader = HouseReader(text.split("\n") if text != "" else [])
    reader.read()
    if house_text(reader.house) != text:
        raise NoHouse(0)
    return reader.house
