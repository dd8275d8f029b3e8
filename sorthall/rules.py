"""Rules: each tells of two things whether the first must go before the second."""

from sorthall.errors import NoRule

GREATEST_AT = 7
UP = "up"
DOWN = "down"


def check_at(at):
    """Refuse a place at which no thing has a number."""
    if at < 0 or at > GREATEST_AT:
        raise NoRule()


def check_column(at, way):
    """Refuse a column with a wrong place or a wrong way."""
    check_at(at)
    if way != UP and way != DOWN:
        raise NoRule()


def widest_of(rules):
    """The greatest place that one of the rules names, -1 where none does."""
    return max([rule.widest() for rule in rules], default=-1)


class Rule:
    """Puts no thing before another."""

    def before(self, x, y):
        """Whether x must go before y."""
        return False

    def widest(self):
        """The greatest place at which the rule looks, -1 where it names none."""
        return -1


class KeyRule(Rule):
    """The first column at which two things differ decides."""

    def __init__(self, columns):
        for at, way in columns:
            check_column(at, way)
        self.columns = list(columns)

    def before(self, x, y):
        """Whether x is less at the deciding column, or greater where that one goes down."""
        for at, way in self.columns:
            if x[at] != y[at]:
                return x[at] < y[at] if way == UP else x[at] > y[at]
        return False

    def widest(self):
        """The greatest place of a column, -1 without columns."""
        return max([at for at, way in self.columns], default=-1)


class NearRule(Rule):
    """Numbers no further apart than the gap are alike."""

    def __init__(self, at, gap):
        check_at(at)
        if gap < 0:
            raise NoRule()
        self.at = at
        self.gap = gap

    def before(self, x, y):
        """Whether y's number is above x's by more than the gap."""
        return y[self.at] - x[self.at] > self.gap

    def widest(self):
        """The place of the numbers."""
        return self.at


class RingRule(Rule):
    """Numbers stand on a ring; the shorter way round decides."""

    def __init__(self, at, size):
        check_at(at)
        if size < 1:
            raise NoRule()
        self.at = at
        self.size = size

    def before(self, x, y):
        """Whether the way up from x's number to y's is less than half the ring."""
        up_to = (y[self.at] - x[self.at]) % self.size
        return up_to > 0 and 2 * up_to < self.size

    def widest(self):
        """The place of the numbers."""
        return self.at


class TableRule(Rule):
    """A table of truths decides, by the numbers of both things."""

    def __init__(self, at, table):
        check_at(at)
        for truths in table:
            if len(truths) != len(table):
                raise NoRule()
        self.at = at
        self.table = [list(truths) for truths in table]

    def before(self, x, y):
        """The truth in the list of x's number, at y's number."""
        return self.table[x[self.at]][y[self.at]]

    def widest(self):
        """The place of the numbers."""
        return self.at


class VoteRule(Rule):
    """The greater number of rules decides."""

    def __init__(self, rules):
        self.rules = list(rules)

    def before(self, x, y):
        """Whether more rules put x before y than y before x."""
        for_x = [rule for rule in self.rules if rule.before(x, y)]
        for_y = [rule for rule in self.rules if rule.before(y, x)]
        return len(for_x) > len(for_y)

    def widest(self):
        """The greatest place that one of the rules names."""
        return widest_of(self.rules)


class ChainRule(Rule):
    """The first rule that puts one of the things before the other decides."""

    def __init__(self, rules):
        self.rules = list(rules)

    def before(self, x, y):
        """As the deciding rule puts x before y."""
        for rule in self.rules:
            # A rule may put each of both before the other: then, too, it is its word on x before y that counts.
            if rule.before(x, y):
                return True
            if rule.before(y, x):
                return False
        return False

    def widest(self):
        """The greatest place that one of the rules names."""
        return widest_of(self.rules)


class AskedRule(Rule):
    """A function of two things decides."""

    def __init__(self, teller):
        self.teller = teller

    def before(self, x, y):
        """As the function tells, asked once."""
        teller = self.teller
        return teller(x, y)
