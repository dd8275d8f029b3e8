"""Ranks and flaws: point 20, with point 4."""

import itertools
import unittest

from sorthall.flaws import ranked
from sorthall.rules import AskedRule, ChainRule, KeyRule, NearRule, RingRule, Rule, TableRule, VoteRule
from support import DOWN, UP, HallCase, fickle, is_order, order_rules, ranks_of, row_of, some_rows, wild_rules


def table_rule(truths):
    """The rule of places: for a row (0,), (1,), (2,) and so on."""
    return TableRule(0, truths)


class RankedCase(HallCase):
    def ranks(self, row, rule, wanted):
        told = ranked(row, rule)
        self.assertIs(type(told), tuple)
        self.assertEqual(told, ("ranks", wanted))
        self.whole_list(told[1])

    def flaw_shows(self, row, rule, told):
        """What was told is a flaw, and the rule has it."""
        self.assertIs(type(told), tuple)
        self.assertEqual(len(told), 3)
        self.assertEqual(told[0], "flaw")
        self.assertIs(type(told[2]), tuple)
        for place in told[2]:
            self.assertIs(type(place), int)
            self.assertIn(place, range(len(row)))
        p, q, r = told[2]
        if told[1] == "self":
            self.assertEqual((p, p), (q, r))
            self.assertTrue(rule.before(row[p], row[p]))
        elif told[1] == "both":
            self.assertEqual((p, p == q), (r, False))
            self.assertTrue(rule.before(row[p], row[q]) and rule.before(row[q], row[p]))
        else:
            self.assertEqual(told[1], "tie")
            self.assertEqual(len({p, q, r}), 3)
            self.assertTrue(rule.before(row[p], row[q]))
            self.assertFalse(rule.before(row[p], row[r]) or rule.before(row[r], row[q]))

    def flaw(self, row, rule, word):
        told = ranked(row, rule)
        self.flaw_shows(row, rule, told)
        self.assertEqual(told[1], word)

    def right(self, row, rule):
        """Ranks just where the rule is an order, else a flaw that it has."""
        if is_order(row, rule):
            self.ranks(row, rule, ranks_of(row, rule))
        else:
            self.flaw_shows(row, rule, ranked(row, rule))


class Ranks(RankedCase):
    def test_no_thing_and_one(self):
        for rule in (Rule(), UP, NearRule(0, 3), RingRule(0, 3), fickle(0)):
            self.ranks([], rule, [])
        for rule in (Rule(), UP, NearRule(0, 3), RingRule(0, 3), VoteRule([UP, DOWN])):
            self.ranks([(5,)], rule, [0])

    def test_one_column(self):
        self.ranks(row_of(3, 1, 2), UP, [2, 0, 1])
        self.ranks(row_of(3, 1, 2), DOWN, [0, 2, 1])
        self.ranks(row_of(7, 7, 7), UP, [0, 0, 0])
        self.ranks(row_of(5, 2, 5, 2, 9), UP, [2, 0, 2, 0, 4])
        self.ranks(row_of(5, 2, 5, 2, 9), DOWN, [1, 3, 1, 3, 0])

    def test_several_columns(self):
        row = [(1, 5), (0, 5), (1, 6), (0, 4), (1, 5)]
        self.ranks(row, KeyRule([(0, "up"), (1, "up")]), [2, 1, 4, 0, 2])
        self.ranks(row, KeyRule([(0, "up"), (1, "down")]), [3, 0, 2, 1, 3])
        self.ranks(row, KeyRule([(0, "down"), (1, "up")]), [0, 4, 2, 3, 0])
        self.ranks(row, KeyRule([(1, "down")]), [1, 1, 0, 4, 1])

    def test_keys_are_always_ranked(self):
        for many in (1, 2, 5, 12):
            for row in some_rows(many):
                for columns in itertools.permutations([(0, "up"), (1, "down"), (2, "up")], 2):
                    rule = KeyRule(list(columns))
                    self.ranks(row, rule, ranks_of(row, rule))

    def test_orders_of_all_kinds(self):
        for many in (2, 7, 20):
            for row in some_rows(many):
                for rule in order_rules():
                    self.assertTrue(is_order(row, rule))
                    self.ranks(row, rule, ranks_of(row, rule))

    def test_a_rule_that_is_no_order_elsewhere(self):
        self.ranks(row_of(0, 5, 1), NearRule(0, 2), [0, 2, 0])
        self.ranks(row_of(0, 2, 1), RingRule(0, 7), [0, 2, 1])
        self.ranks(row_of(0, 2, 2), table_rule([[False, True, True], [True] * 3, [False] * 3]), [0, 1, 1])

    def test_the_same_thing_at_two_places(self):
        thing = (4,)
        self.ranks([thing, (1,), thing], UP, [1, 0, 1])

    def test_things_of_any_kind(self):
        self.ranks(["bb", "a", "ccc"], AskedRule(lambda x, y: len(x) < len(y)), [1, 0, 2])


class Flaws(RankedCase):
    def test_near(self):
        self.flaw(row_of(0, 2, 4), NearRule(0, 3), "tie")
        self.assertEqual(ranked(row_of(0, 2, 4), NearRule(0, 3)), ("flaw", "tie", (0, 2, 1)))

    def test_ring(self):
        self.flaw(row_of(0, 1, 2), RingRule(0, 3), "tie")
        self.flaw(row_of(0, 3, 6), RingRule(0, 8), "tie")

    def test_votes(self):
        votes = VoteRule([KeyRule([(at, "up")]) for at in range(3)])
        self.flaw([(0, 1, 2), (1, 2, 0), (2, 0, 1)], votes, "tie")

    def test_chain(self):
        self.flaw(row_of(0, 2, 4), ChainRule([NearRule(0, 3), DOWN]), "tie")

    def test_a_thing_before_itself(self):
        self.flaw([(5,)], AskedRule(lambda x, y: True), "self")
        self.flaw([(0,)], table_rule([[True]]), "self")
        for at in range(4):
            rule = AskedRule(lambda x, y: x < y or x == y == (at,))
            self.assertEqual(ranked(row_of(0, 1, 2, 3), rule), ("flaw", "self", (at, at, at)))

    def test_each_before_the_other(self):
        self.flaw(row_of(0, 1), table_rule([[False, True], [True, False]]), "both")
        for at in range(3):
            rule = AskedRule(lambda x, y: x < y or (x, y) == ((at + 1,), (at,)))
            told = ranked(row_of(0, 1, 2, 3), rule)
            self.assertIn(told, [("flaw", "both", (at, at + 1, at)), ("flaw", "both", (at + 1, at, at + 1))])

    def test_alike_things_that_are_put_before_each_other(self):
        rule = AskedRule(lambda x, y: x <= y)
        self.flaw_shows(row_of(3, 3), rule, ranked(row_of(3, 3), rule))

    def test_each_table_of_two_and_of_three(self):
        for many in (1, 2, 3):
            row = [(place,) for place in range(many)]
            for truths in itertools.product((False, True), repeat=many * many):
                self.right(row, table_rule([list(truths[line * many:line * many + many]) for line in range(many)]))

    def test_each_table_of_four_in_which_nothing_is_put_before_itself_or_both_ways(self):
        row = row_of(0, 1, 2, 3)
        pairs = [(p, q) for q in range(4) for p in range(q)]
        for ways in itertools.product((0, 1, 2), repeat=6):
            table = [[False] * 4 for line in range(4)]
            for (p, q), way in zip(pairs, ways, strict=True):
                table[p][q] = way == 1
                table[q][p] = way == 2
            self.right(row, table_rule(table))

    def test_rules_that_are_no_order(self):
        for many in (3, 6, 15):
            for row in some_rows(many):
                for rule in wild_rules()[:5]:
                    self.right(row, rule)

    def test_unlike_answers_to_one_ask(self):
        for seed in range(40):
            row = row_of(*range(4))
            told = ranked(row, fickle(seed))
            self.assertIn(told[0], ("ranks", "flaw"))

    def test_sixty_things(self):
        row = row_of(*range(60))
        self.right(row, UP)
        rule = AskedRule(lambda x, y: x < y and (x, y) != ((20,), (21,)) or (x, y) == ((59,), (0,)))
        self.right(row, rule)
        rule = AskedRule(lambda x, y: x < y and (x, y) != ((0,), (59,)))
        self.flaw(row, rule, "tie")


class HandedIn(RankedCase):
    def test_the_row_stays(self):
        row = [[3], [1], [2]]
        kept = list(row)
        ranked(row, AskedRule(lambda x, y: x[0] < y[0]))
        ranked(row, AskedRule(lambda x, y: x[0] != y[0]))
        self.assertEqual(row, [[3], [1], [2]])
        for thing, other in zip(row, kept, strict=True):
            self.assertIs(thing, other)

    def test_the_list_is_told_anew_each_time(self):
        row = row_of(2, 1)
        ranked(row, UP)[1].append(5)
        self.ranks(row, UP, [1, 0])


if __name__ == "__main__":
    unittest.main()
