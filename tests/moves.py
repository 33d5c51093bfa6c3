"""What moving a run hangs on, looked for by following runs row by row, up to a depth."""

from tests.naive import as_address, naive_free, sum_of_value


def multiples_at(image, registers, data):
    """The dict from all wheres to dicts from the pieces to the multiples of their places."""
    names = [p for p, _, _ in image.pieces()]
    found = {}
    for where, value in [(("register", n), registers[n]) for n in range(8)] + [
            (("word",) + address, value) for address, value in data.items()]:
        parts = dict(sum_of_value(value)[1])
        found[where] = {p: parts.get(("piece", p), 0) for p in names}
    return found


class Brute:
    """What is seen of all runs by rows of truths up to some length."""

    def __init__(self, image, depth, limit=120, first=()):
        self.waits = []
        self.tells = []
        self.moments = {}
        self.puts = {}
        self.image = image
        rows = [tuple(first)]
        for _ in range(depth + 1):
            newer = []
            for row in rows:
                events = naive_free(image, list(row), lambda *told, row=row: self.watch(row, *told), limit)[0]
                if events[-1] == ("wait",):
                    newer += [row + (False,), row + (True,)]
            rows = newer
            if len(rows) > 64:
                break
        self.rest = rows

    def watch(self, row, at, ins, registers, data, given):
        if given != len(row):
            return
        called, x, y, d = ins
        here = multiples_at(self.image, registers, data)
        self.moments.setdefault(at, []).append(here)
        if called in ("take", "ask", "askfar"):
            self.waits.append((row, at, here))
        if called == "tell":
            self.tells.append((row, at, here[("register", x)]))
        sources = []
        target = ("register", x)
        if called == "copy":
            sources = [("register", y)]
        if called in ("add", "less"):
            sources = [("register", x), ("register", y)]
        if called in ("load", "store"):
            base = as_address(registers[y])
            named = None if base is None else (base[0], base[1] + d)
            if named in data and called == "load":
                sources = [("word",) + named]
            if named in data and called == "store":
                sources = [("register", x)]
                target = ("word",) + named
        for source in sources:
            self.puts.setdefault(target, set()).add((at, source))

    def points(self):
        found = []
        for _, at, _ in self.waits:
            if at not in found:
                found.append(at)
        return found

    def lot(self):
        wheres = list(multiples_at(self.image, *start_of(self.image)))
        unsure = {(at, where) for at, rows in self.moments.items() for where in wheres
                  if any(row[where] != rows[0][where] for row in rows)}
        lot = {where for where in wheres if any((at, where) in unsure for at in self.points())}
        while True:
            more = {source for where in lot for at, source in self.puts.get(where, ()) if (at, source) in unsure} - lot
            if not more:
                return [where for where in wheres if where in lot]
            lot |= more


def start_of(image):
    _, (_, registers, data), _ = naive_free(image, [], None, 0)
    return registers, data
