"""Pours: many orders poured together, by a tree of meetings of their fronts."""


def meetings_of(first, beyond):
    """The meetings of the tree of the pieces from first to below beyond, in the turn in which they are held.

    A meeting is a tuple (first, middle, beyond): the pieces below middle meet those from middle on.
    """
    if beyond - first < 2:
        return []
    middle = first + (beyond - first + 1) // 2
    return meetings_of(first, middle) + meetings_of(middle, beyond) + [(first, middle, beyond)]


class Pour:
    """Pieces, each in order, whose places are taken from the first one to the last."""

    def __init__(self, asker, pieces):
        self.asker = asker
        self.pieces = [list(piece) for piece in pieces]
        self.taken = [0 for piece in self.pieces]
        self.meetings = meetings_of(0, len(self.pieces))
        # What went on from each part (first, beyond) of the tree: a tuple (place, piece), or None for nothing.
        self.went_on = {}
        for piece in range(len(self.pieces)):
            self.went_on[(piece, piece + 1)] = self.front_of(piece, 0)
        self.went_on = self.held(self.meetings, self.went_on)

    def front_of(self, piece, taken):
        """The front of a piece of which so many places were taken, as (place, piece); None where nothing is left."""
        places = self.pieces[piece]
        return (places[taken], piece) if taken < len(places) else None

    def goes_on(self, p, q):
        """Whether place p, and not place q, goes on from a meeting of both."""
        return self.asker.ahead(p, q)

    def met(self, one, other):
        """What goes on from a meeting of two fronts, either of them perhaps None."""
        if one is None or other is None:
            return other if one is None else one
        return one if self.goes_on(one[0], other[0]) else other

    def held(self, meetings, went_on):
        """What went on before, with these meetings held anew, one behind the other."""
        told = dict(went_on)
        for first, middle, beyond in meetings:
            told[(first, beyond)] = self.met(told[(first, middle)], told[(middle, beyond)])
        return told

    def top(self):
        """What went on from the topmost meeting, as (place, piece), or None."""
        return self.went_on.get((0, len(self.pieces)))

    def first(self):
        """The place that is to be taken next, or None."""
        top = self.top()
        return None if top is None else top[0]

    def take(self):
        """Take that place away and tell it; None where nothing is left."""
        top = self.top()
        if top is None:
            return None
        piece = top[1]
        taken = self.taken[piece] + 1
        way = [meeting for meeting in self.meetings if meeting[0] <= piece and piece < meeting[2]]
        # A take that is refused must take nothing, so all is worked out on a copy.
        went_on = dict(self.went_on)
        went_on[(piece, piece + 1)] = self.front_of(piece, taken)
        self.went_on = self.held(way, went_on)
        self.taken[piece] = taken
        return top[0]

    def left(self):
        """How many places are still to be taken."""
        return sum([len(piece) for piece in self.pieces]) - sum(self.taken)


class LastPour(Pour):
    """A pour from behind: places are taken from the last one to the first."""

    def front_of(self, piece, taken):
        """The last place of a piece of which so many were taken from behind, as (place, piece), or None."""
        places = self.pieces[piece]
        return (places[len(places) - 1 - taken], piece) if taken < len(places) else None

    def goes_on(self, p, q):
        """Whether place p goes on: where it does not stand ahead."""
        return not self.asker.ahead(p, q)


def poured(asker, pieces):
    """All places of the pieces in one order."""
    pour = Pour(asker, pieces)
    return [pour.take() for turn in range(pour.left())]
