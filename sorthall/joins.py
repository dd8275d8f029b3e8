"""Joining two orders into one, with leaps where one side wins again and again."""

from sorthall.leaps import leap

LEFT = 0
RIGHT = 1
WINS_TO_LEAP = 4


class Join:
    """Two orders, how many places of each were taken, and what was taken so far."""

    def __init__(self, asker, left, right):
        self.asker = asker
        self.sides = (list(left), list(right))
        self.taken = [0, 0]
        self.places = []

    def has_more(self, side):
        """Whether the side has places left."""
        return self.taken[side] < len(self.sides[side])

    def front(self, side):
        """The side's first place that was not taken."""
        return self.sides[side][self.taken[side]]

    def take_on(self, side, more):
        """Take so many more places of the side."""
        start = self.taken[side]
        self.places.extend(self.sides[side][start:start + more])
        self.taken[side] = start + more

    def take_rest(self, side):
        """Take all that the side has left."""
        self.take_on(side, len(self.sides[side]) - self.taken[side])

    def win(self):
        """Take the front that stands ahead, and tell its side."""
        side = LEFT if self.asker.ahead(self.front(LEFT), self.front(RIGHT)) else RIGHT
        self.take_on(side, 1)
        return side

    def leap_on(self, side):
        """Take the side's places ahead of the other one's front, then that front."""
        other = RIGHT if side == LEFT else LEFT
        self.take_on(side, leap(self.asker, self.sides[side], self.taken[side], self.front(other)))
        # The leap has shown that the other one's front stands ahead of what the side has left: no ask is needed.
        if self.has_more(side):
            self.take_on(other, 1)


def joined(asker, left, right):
    """All places of both orders in one order."""
    join = Join(asker, left, right)
    wins = 0
    winner = LEFT
    while join.has_more(LEFT) and join.has_more(RIGHT):
        side = join.win()
        wins = wins + 1 if side == winner else 1
        winner = side
        if wins == WINS_TO_LEAP:
            join.leap_on(side)
            wins = 0
    join.take_rest(LEFT)
    join.take_rest(RIGHT)
    return list(join.places)
