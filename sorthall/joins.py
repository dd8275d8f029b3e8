"""Joining two orders into one, with leaps where one side wins again and again."""

from sorthall.leaps import leap

WINS_TO_LEAP = 4


class Side:
    """One of the two orders, and how many of its places were taken."""

    def __init__(self, places):
        self.places = list(places)
        self.taken = 0

    def has_more(self):
        """Whether it has places left."""
        return self.taken < len(self.places)

    def front(self):
        """Its first place that was not taken."""
        return self.places[self.taken]

    def take_on(self, more):
        """Take so many more places, and tell them."""
        start = self.taken
        self.taken += more
        return self.places[start:self.taken]

    def take_rest(self):
        """Take all that is left, and tell it."""
        return self.take_on(len(self.places) - self.taken)


def leaped(asker, side, other):
    """What is taken by a leap of the side: its places ahead of the other one's front, then that front."""
    found = side.take_on(leap(asker, side.places, side.taken, other.front()))
    # The leap has shown that the other one's front stands ahead of what the side has left: no ask is needed.
    return found + other.take_on(1) if side.has_more() else found


def joined(asker, left, right):
    """All places of both orders in one order."""
    lower = Side(left)
    upper = Side(right)
    order = []
    wins = 0
    lower_won = False
    while lower.has_more() and upper.has_more():
        lower_wins = asker.ahead(lower.front(), upper.front())
        wins = wins + 1 if lower_wins == lower_won else 1
        lower_won = lower_wins
        side = lower if lower_wins else upper
        order.extend(side.take_on(1))
        if wins == WINS_TO_LEAP:
            order.extend(leaped(asker, side, upper if lower_wins else lower))
            wins = 0
    return order + lower.take_rest() + upper.take_rest()
