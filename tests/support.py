"""What the test files share: rows, rules, and ways to look at what was told and asked."""

import itertools
import random
import unittest

from sorthall.askers import Asker
from sorthall.errors import Spent
from sorthall.rules import AskedRule, ChainRule, KeyRule, NearRule, RingRule, Rule, TableRule, VoteRule

UP = KeyRule([(0, "up")])
DOWN = KeyRule([(0, "down")])


def row_of(*numbers):
    return [(number,) for number in numbers]


def ranks_of(row, rule):
    """For each place the number of the places whose things the rule puts before its thing."""
    return [sum(rule.before(other, thing) for other in row) for thing in row]


def is_order(row, rule):
    """Whether the rule is an order for the row, as point 4 tells it."""
    ranks = ranks_of(row, rule)
    places = range(len(row))
    return all(rule.before(row[p], row[q]) == (ranks[p] < ranks[q]) for p in places for q in places)


def one_paper(row, rule):
    """The one paper of the row, as point 4 tells it."""
    ranks = ranks_of(row, rule)
    return sorted(range(len(row)), key=lambda place: (ranks[place], place))


def in_order(row, rule, places):
    """These places of the row in their order."""
    return [place for place in one_paper(row, rule) if place in places]


def some_rows(many, seed=0):
    """Rows of so many things of three numbers: chance, alike, rising, falling and nearly in order."""
    chance = random.Random(1000 * seed + many)
    rows = [[tuple(chance.randrange(most) for column in range(3)) for place in range(many)] for most in (2, 4, 1000)]
    rows.append([(place // 2, 0, place) for place in range(many)])
    rows.append([(-place, 1, -place // 3) for place in range(many)])
    rows.append([(place + chance.randrange(4), place % 3, 7) for place in range(many)])
    rows.append([(place % 7 if place % 14 < 7 else 7 - place % 7, place, 0) for place in range(many)])
    return rows


def order_rules():
    """Rules that are an order for every row of things of three numbers that some_rows tells."""
    return [
        UP,
        DOWN,
        KeyRule([(0, "up"), (1, "down")]),
        KeyRule([(2, "down"), (0, "up"), (1, "up")]),
        NearRule(0, 0),
        RingRule(0, 10 ** 60),
        VoteRule([KeyRule([(1, "up"), (0, "down")])]),
        ChainRule([Rule(), NearRule(1, 0), DOWN]),
        AskedRule(lambda x, y: sum(x) // 2 < sum(y) // 2),
    ]


def fickle(seed):
    """A rule that tells anything, and unlike answers to one ask."""
    chance = random.Random(seed)
    return AskedRule(lambda x, y: chance.random() < 0.5)


def wild_rules(seed=0):
    """Rules that are no order for most rows."""
    chance = random.Random(seed)
    table = [[chance.random() < 0.5 for y in range(1003)] for x in range(5)]
    return [
        NearRule(0, 1),
        RingRule(0, 3),
        RingRule(0, 8),
        AskedRule(lambda x, y: table[x[0] % 5][y[0] % 1003]),
        AskedRule(lambda x, y: True),
        fickle(seed),
        fickle(seed + 1),
    ]


def rows_and_rules(lengths, rules):
    """Each row of these lengths with each rule."""
    for many in lengths:
        yield from itertools.product(some_rows(many), rules)


def each_way_of_answers(run):
    """Call run with a rule again and again, until it was told all that a rule can tell, ask by ask."""
    script = []
    while True:
        heard = []

        def teller(x, y):
            if len(heard) == len(script):
                script.append(False)
            heard.append(script[len(heard)])
            return heard[-1]

        run(AskedRule(teller))
        del script[len(heard):]
        while script and script[-1]:
            script.pop()
        if not script:
            return
        script[-1] = True


class Echo:
    """Answers as an asker was answered, ask by ask, and keeps what it is asked."""

    def __init__(self, answers):
        self.coming = [said for later, earlier, said in answers]
        self.asks = []

    def ahead(self, p, q):
        said = self.coming[len(self.asks)]
        self.asks.append((max(p, q), min(p, q), said))
        return said if p > q else not said


class HallCase(unittest.TestCase):
    def whole(self, told, wanted):
        self.assertEqual(told, wanted)
        self.assertIs(type(told), int)

    def whole_list(self, told):
        self.assertIs(type(told), list)
        for number in told:
            self.assertIs(type(number), int)

    def each_once(self, told, places):
        self.whole_list(told)
        self.assertEqual(sorted(told), sorted(places))

    def as_the_model(self, asker, told, model, asked_before=0):
        """Told and asked is, ask by ask, what the model of the document's words tells and asks."""
        answers = asker.answers()[asked_before:]
        echo = Echo(answers)
        self.assertEqual(told, model(echo.ahead))
        self.assertEqual(echo.asks, answers)

    def spent_and_widened(self, row, rule, way):
        """However many asks it may make: Spent when just so many were made, and the same when given more."""
        free = Asker(row, rule)
        wanted = way(free)
        need = free.asked
        for most in range(need):
            asker = Asker(row, rule, most)
            with self.assertRaises(Spent) as taken:
                way(asker)
            self.whole(taken.exception.asked, most)
            self.whole(asker.asked, most)
            self.assertEqual(asker.answers(), free.answers()[:most])
            asker.widen(need)
            self.assertEqual(way(asker), wanted)
            self.assertEqual(asker.answers()[most:], free.answers())
        asker = Asker(row, rule, need)
        self.assertEqual(way(asker), wanted)
        self.whole(asker.asked, need)
