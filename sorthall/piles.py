"""The pile: stretches are laid on it and joined, by the grades of their seams."""

from sorthall.joins import joined
from sorthall.putting import filled
from sorthall.seams import grade


class Pile:
    """A pile of the stretches of a part of an asker's row, from the bottom up."""

    def __init__(self, asker, least=1, part=None):
        self.asker = asker
        self.least = least
        self.start = 0 if part is None else part[0]
        self.end = asker.many() if part is None else part[1]
        self.reached = self.start
        self.firsts = []
        self.orders = []
        self.grades = []

    def beyond_of(self, number):
        """The place behind the last one of the stretch with this number from the bottom."""
        return self.firsts[number + 1] if number + 1 < len(self.firsts) else self.reached

    def is_due_beneath(self):
        """Whether the seam beneath the second stretch from the top has a greater grade than the seam above it."""
        return len(self.grades) > 1 and self.grades[-2] > self.grades[-1]

    def join_two(self, lower):
        """Join the stretch with this number and the one above it."""
        order = joined(self.asker, self.orders[lower], self.orders[lower + 1])
        deed = ("join", self.firsts[lower], self.firsts[lower + 1], self.beyond_of(lower + 1))
        # All asks are made by now: from here on nothing is refused, so the pile is changed as a whole or not at all.
        self.orders[lower] = order
        self.orders.pop(lower + 1)
        self.firsts.pop(lower + 1)
        self.grades.pop(lower)
        return deed

    def grade_on_top(self, middle, beyond):
        """The grade of the seam between the topmost stretch and one from middle to below beyond."""
        # Only a stretch as it was laid is topmost while others are laid: joins beneath leave it alone.
        return grade(self.end - self.start, self.firsts[-1] - self.start, middle - self.start, beyond - self.start)

    def lay(self):
        """Find the next stretch, fill it, and lay it on top."""
        first = self.reached
        found = filled(self.asker, first, self.least, self.end)
        beyond = first + len(found[1])
        if self.firsts:
            self.grades.append(self.grade_on_top(first, beyond))
        self.firsts.append(first)
        self.orders.append(found[1])
        self.reached = beyond
        return ("lay", first, found[0], beyond)

    def step(self):
        """Do the first deed that is due, and tell it; None where the pile is done."""
        if self.is_due_beneath():
            return self.join_two(len(self.orders) - 3)
        if self.reached < self.end:
            return self.lay()
        if len(self.orders) > 1:
            return self.join_two(len(self.orders) - 2)
        return None

    def standing(self):
        """What stands, from the bottom: tuples (first, beyond, grade of the seam above or 0)."""
        grades = self.grades + [0]
        return [(first, self.beyond_of(number), grades[number]) for number, first in enumerate(self.firsts)]

    def paper(self):
        """The places of the stretches in their order, then the rest of the part."""
        told = []
        for order in self.orders:
            told.extend(order)
        return told + list(range(self.reached, self.end))


def by_pile(asker, least=1, part=None):
    """The places of the part (None: the whole row) in order."""
    pile = Pile(asker, least, part)
    while pile.step() is not None:
        pass
    return pile.paper()
