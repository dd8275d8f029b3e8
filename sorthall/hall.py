"""The hall: it puts rows in order, by piles or by pieces, and keeps notes."""

from sorthall.askers import Asker
from sorthall.errors import NoKey, NoOrder, Spent
from sorthall.flaws import ranked
from sorthall.piles import by_pile
from sorthall.rounds import by_pieces
from sorthall.rowtexts import read_row, sheet
from sorthall.ruletexts import read_rule


def check_keys(row, rule):
    """Refuse a row some thing of which lacks a number that the rule names."""
    widest = rule.widest()
    for thing in row:
        if len(thing) <= widest:
            raise NoKey()


def check_order(row, rule):
    """Refuse a rule that is no order for the row."""
    found = ranked(row, rule)
    if found[0] == "flaw":
        raise NoOrder(found)


class Hall:
    """How wide a row or a piece is for one pile, how many pieces are poured at a time, and the piles' least."""

    def __init__(self, wide, mouths=2, least=1):
        self.wide = wide
        self.mouths = mouths
        self.least = least
        self.noted = []

    def paper_of(self, asker):
        """The paper of the asker's row, by one pile or by pieces."""
        if asker.many() <= self.wide:
            return by_pile(asker, self.least)
        return by_pieces(asker, self.wide, self.mouths, self.least)

    def order(self, row, rule, most=None):
        """The row's paper."""
        check_keys(row, rule)
        check_order(row, rule)
        asker = Asker(row, rule, most)
        try:
            paper = self.paper_of(asker)
        except Spent as spent:
            self.noted.append((asker.many(), asker.asked, "spent"))
            raise Spent(spent.asked) from None
        self.noted.append((asker.many(), asker.asked, "done"))
        return paper

    def ordered(self, rule_text, row_text, most=None):
        """The sheet of a row and its paper, both rule and row told as texts."""
        rule = read_rule(rule_text)
        row = read_row(row_text)
        return sheet(row, self.order(row, rule, most))

    def notes(self):
        """A tuple (things, asked, word) for each row that was not refused ahead of any ask."""
        return list(self.noted)
