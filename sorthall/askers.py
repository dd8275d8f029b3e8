"""The asker: it asks a rule about the places of a row, and keeps count."""

from sorthall.errors import Spent


class Asker:
    """A row, a rule, and how many asks may be made at most (None: no bound)."""

    def __init__(self, row, rule, most=None):
        self.row = list(row)
        self.rule = rule
        self.most = most
        self.asked = 0
        self.told = []

    def many(self):
        """How many things the row has."""
        return len(self.row)

    def ahead(self, p, q):
        """Whether place p stands ahead of place q: one ask."""
        if self.most is not None and self.asked >= self.most:
            raise Spent(self.asked)
        # Only the later place is asked about, so that things between which there is nothing to choose keep their turn.
        later = max(p, q)
        earlier = min(p, q)
        said = self.rule.before(self.row[later], self.row[earlier])
        self.asked += 1
        self.told.append((later, earlier, said))
        return said if p == later else not said

    def answers(self):
        """All asks made, in turn, as tuples (later, earlier, said)."""
        return list(self.told)

    def widen(self, more):
        """Let so many more asks be made; without bound it stays without."""
        if self.most is not None:
            self.most += more
