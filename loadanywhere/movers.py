"""Plain runs whose pieces are laid elsewhere while they run."""

from loadanywhere.errors import Ended, NoDeed, Strays, Unsure
from loadanywhere.flows import flow_of
from loadanywhere.images import laid
from loadanywhere.movetables import arrivals_at, sure_in
from loadanywhere.plainsteps import begun, check_answers, ready_code
from loadanywhere.relocating import check_moves
from loadanywhere.talks import Talks
from loadanywhere.walks import lost_row


class Lodging:
    """A plain run with the placing at which it goes; it has begun if something was given to it."""

    def __init__(self, run, spots, has_begun):
        self.run_here = run
        self.spots = spots
        self.has_begun = has_begun


def address_at(image, spots, place):
    """The address of the word at a place."""
    for p, _, words in image.pieces():
        if spots[p] <= place < spots[p] + len(words):
            return (p, place - spots[p])
    return None


def moved_run(image, lodging, spots, moves, sure):
    """The run laid at other spots, with what has to be added where the places of pieces that move are in numbers."""
    run = lodging.run_here.copied()
    p, k = address_at(image, lodging.spots, run.spot)
    memory = laid(image, spots)
    for where, parts in sure.items():
        more = sum([moves[q] * parts[q] for q in moves if moves[q] != 0])
        if where[0] == "register":
            run.held[where[1]] += more
        else:
            memory[spots[where[1]] + where[2]] = run.memory[lodging.spots[where[1]] + where[2]] + more
    run.memory = memory
    run.code = ready_code(image.pieces(), spots, memory)
    run.spot = spots[p] + k
    return run


class Mover:
    """A plain run, live: gives and moves are deeds that can be undone."""

    def __init__(self, image, places):
        self.image_here = image
        spots = {p: places[p] for p in laid_pieces(image, places)}
        answers = lost_row(image)
        if answers is not None:
            raise Strays(answers)
        self.lodgings = [Lodging(begun(image, spots), spots, False)]
        self.deeds = 0
        self.talks = Talks(image)
        self.flow = flow_of(self.talks)

    def lodging(self):
        return self.lodgings[self.deeds]

    def change(self, lodging):
        self.lodgings = self.lodgings[:self.deeds + 1] + [lodging]
        self.deeds += 1

    def give(self, answers):
        check_answers(answers)
        lodging = self.lodging()
        run = lodging.run_here.copied()
        if run.over and len(answers) > 0:
            raise Ended()
        stood = len(run.heard)
        run.give(answers)
        self.change(Lodging(run, lodging.spots, True))
        return run.heard[stood:]

    def move(self, moves):
        image = self.image_here
        check_moves(image.pieces(), moves)
        lodging = self.lodging()
        if lodging.run_here.over:
            raise Ended()
        further = {p: moves.get(p, 0) for p, _, _ in image.pieces()}
        sure = self.sure_here(further)
        spots = {p: lodging.spots[p] + further[p] for p in further}
        run = moved_run(image, lodging, spots, further, sure)
        self.change(Lodging(run, spots, lodging.has_begun))
        return len(run.heard)

    def sure_here(self, further):
        """The multiples that are sure where the run waits; Unsure if one of a piece that is moved is not.

        Ahead of the first give all words and registers are as at first, at whatever places.
        """
        lodging = self.lodging()
        if not lodging.has_begun:
            return {}
        at = address_at(self.image_here, lodging.spots, lodging.run_here.spot)
        sure = sure_in(self.image_here, self.talks, arrivals_at(self.flow, at))
        for p in further:
            for where, parts in sure.items():
                if further[p] != 0 and parts[p] is None:
                    raise Unsure(p, where)
        return sure

    def undo(self):
        if self.deeds == 0:
            raise NoDeed()
        self.deeds -= 1
        return len(self.lodging().run_here.heard)

    def again(self):
        if self.deeds + 1 == len(self.lodgings):
            raise NoDeed()
        self.deeds += 1
        return len(self.lodging().run_here.heard)

    def registers(self):
        return tuple(self.lodging().run_here.held)

    def at(self):
        return self.lodging().run_here.spot

    def words(self):
        return dict(self.lodging().run_here.memory)

    def events(self):
        return list(self.lodging().run_here.heard)

    def places(self):
        return dict(self.lodging().spots)


def laid_pieces(image, places):
    """The names of the pieces of an image that can be laid so; errors as those of laid."""
    laid(image, places)
    return [p for p, _, _ in image.pieces()]
