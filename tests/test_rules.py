"""The rules: points 4, 10, 11, 12, 13, and 2 as far as it speaks of them."""

import itertools
import unittest

from sorthall.errors import NoRule
from sorthall.rules import AskedRule, ChainRule, KeyRule, NearRule, RingRule, Rule, TableRule, VoteRule

SIXTY = 10 ** 60 - 1


def less_first(x, y):
    return x[0] < y[0]


def ranks_of(rule, row):
    """For each place the number of places whose things the rule puts before its thing."""
    return [sum(rule.before(other, thing) for other in row) for thing in row]


class RuleCase(unittest.TestCase):
    def says(self, rule, x, y, wanted):
        told = rule.before(x, y)
        self.assertIs(told, wanted, (x, y))

    def one_way(self, rule, x, y):
        """x goes before y, and y not before x."""
        self.says(rule, x, y, True)
        self.says(rule, y, x, False)

    def neither(self, rule, x, y):
        self.says(rule, x, y, False)
        self.says(rule, y, x, False)

    def both(self, rule, x, y):
        self.says(rule, x, y, True)
        self.says(rule, y, x, True)


class PlainRule(RuleCase):
    def test_puts_nothing_before_another(self):
        things = [(0,), (1,), (-1, 5), (SIXTY,), "text", None]
        for x, y in itertools.product(things, repeat=2):
            self.says(Rule(), x, y, False)

    def test_the_others_stand_under_it(self):
        for rule in every_rule(0):
            self.assertIsInstance(rule, Rule)


class Keys(RuleCase):
    def test_no_column(self):
        self.neither(KeyRule([]), (1, 2), (3, 4))
        self.says(KeyRule([]), (1, 2), (1, 2), False)

    def test_one_column_up(self):
        rule = KeyRule([(0, "up")])
        self.one_way(rule, (1, 9), (2, 0))
        self.one_way(rule, (-3, 9), (-2, 0))
        self.neither(rule, (2, 9), (2, 0))

    def test_one_column_down(self):
        rule = KeyRule([(1, "down")])
        self.one_way(rule, (0, 5), (0, 4))
        self.one_way(rule, (0, -4), (0, -5))
        self.neither(rule, (1, 5), (2, 5))

    def test_the_first_column_that_differs_decides(self):
        rule = KeyRule([(2, "up"), (0, "down"), (1, "up")])
        self.one_way(rule, (0, 9, 1), (9, 0, 2))
        self.one_way(rule, (9, 9, 1), (0, 0, 1))
        self.one_way(rule, (4, 0, 1), (4, 9, 1))
        self.neither(rule, (4, 4, 1), (4, 4, 1))

    def test_a_column_that_stands_twice(self):
        self.one_way(KeyRule([(0, "down"), (0, "up")]), (2,), (1,))
        self.one_way(KeyRule([(0, "up"), (0, "down")]), (1,), (2,))

    def test_a_thing_with_itself(self):
        for columns in ([(0, "up")], [(0, "down")], [(1, "up"), (0, "down")]):
            self.says(KeyRule(columns), (3, 4), (3, 4), False)

    def test_alike_in_all_columns(self):
        self.neither(KeyRule([(0, "up"), (2, "down")]), (1, 7, 3), (1, 8, 3))

    def test_numbers_of_sixty_figures(self):
        rising = [-SIXTY, -SIXTY + 1, -1, 0, 1, SIXTY - 1, SIXTY]
        for low, high in itertools.combinations(rising, 2):
            self.one_way(KeyRule([(0, "up")]), (low,), (high,))
            self.one_way(KeyRule([(0, "down")]), (high,), (low,))

    def test_last_column_that_a_thing_can_have(self):
        self.one_way(KeyRule([(7, "up")]), (9, 9, 9, 9, 9, 9, 9, 1), (0, 0, 0, 0, 0, 0, 0, 2))

    def test_more_than_twenty_columns_are_not_refused(self):
        rule = KeyRule([(0, "up")] * 21 + [(1, "down")])
        self.one_way(rule, (0, 2), (0, 1))


class KeysAreAnOrder(unittest.TestCase):
    COLUMNS = [
        [],
        [(0, "up")],
        [(1, "down")],
        [(0, "up"), (1, "down")],
        [(1, "down"), (0, "down")],
        [(2, "up"), (0, "down"), (1, "up")],
    ]
    ROWS = [
        [],
        [(0, 0, 0)],
        list(itertools.product((0, 1, -1), repeat=3)),
        [(3, -2, 1), (3, -2, 1), (3, 2, 1), (-3, 2, 1), (3, -2, 1), (0, 0, 0)],
        list(itertools.product((SIXTY, -SIXTY, 0), (SIXTY - 1, SIXTY), (0,))),
    ]

    def test_ranks_fit_any_two_places(self):
        for columns, row in itertools.product(self.COLUMNS, self.ROWS):
            rule = KeyRule(columns)
            ranks = ranks_of(rule, row)
            for p, q in itertools.product(range(len(row)), repeat=2):
                self.assertIs(rule.before(row[p], row[q]), ranks[p] < ranks[q], (columns, row[p], row[q]))

    def test_any_three_things(self):
        for columns, row in itertools.product(self.COLUMNS, self.ROWS):
            rule = KeyRule(columns)
            for x, y, z in itertools.product(row, repeat=3):
                if rule.before(x, y):
                    self.assertFalse(rule.before(y, x))
                    self.assertTrue(rule.before(x, z) or rule.before(z, y), (columns, x, y, z))


class Near(RuleCase):
    def test_about_the_gap(self):
        rule = NearRule(0, 5)
        self.neither(rule, (10,), (14,))
        self.neither(rule, (10,), (15,))
        self.one_way(rule, (10,), (16,))
        self.neither(rule, (10,), (10,))

    def test_below_nought_and_at_another_place(self):
        rule = NearRule(1, 3)
        self.neither(rule, (0, -2), (9, 1))
        self.one_way(rule, (9, -2), (0, 2))
        self.one_way(rule, (9, -9), (0, -5))
        self.neither(rule, (9, -9), (0, -6))

    def test_gap_nought(self):
        rule = NearRule(0, 0)
        self.one_way(rule, (4,), (5,))
        self.neither(rule, (4,), (4,))

    def test_long_numbers(self):
        self.neither(NearRule(0, SIXTY), (0,), (SIXTY,))
        self.one_way(NearRule(0, SIXTY), (-1,), (SIXTY,))


class Ring(RuleCase):
    def test_size_one(self):
        for low, high in itertools.product(range(-2, 3), repeat=2):
            self.says(RingRule(0, 1), (low,), (high,), False)

    def test_size_two(self):
        for low, high in itertools.product(range(-2, 3), repeat=2):
            self.says(RingRule(0, 2), (low,), (high,), False)

    def test_even_size(self):
        rule = RingRule(0, 12)
        self.one_way(rule, (3,), (4,))
        self.one_way(rule, (3,), (8,))
        self.neither(rule, (3,), (9,))
        self.one_way(rule, (10,), (3,))
        self.neither(rule, (3,), (3,))
        self.neither(rule, (3,), (15,))

    def test_odd_size(self):
        rule = RingRule(0, 7)
        self.one_way(rule, (0,), (1,))
        self.one_way(rule, (0,), (3,))
        self.one_way(rule, (4,), (0,))
        self.one_way(rule, (6,), (0,))
        self.one_way(RingRule(0, 3), (2,), (0,))

    def test_all_ways_round(self):
        for size in (1, 2, 3, 4, 7, 8):
            rule = RingRule(0, size)
            for start, way in itertools.product(range(-9, 10), range(size)):
                self.says(rule, (start,), (start + way,), 0 < way and way + way < size)

    def test_numbers_below_nought_and_far_off(self):
        rule = RingRule(1, 10)
        self.one_way(rule, (0, -1), (0, 1))
        self.one_way(rule, (0, -13), (0, -11))
        self.one_way(rule, (0, 1), (0, -7))
        self.neither(rule, (0, -2), (0, 3))
        self.one_way(rule, (0, SIXTY), (0, 0))
        self.one_way(rule, (0, 0), (0, -SIXTY))

    def test_long_size(self):
        self.one_way(RingRule(0, SIXTY), (0,), (SIXTY // 2,))
        self.one_way(RingRule(0, SIXTY), (SIXTY // 2 + 1,), (0,))


class Table(RuleCase):
    def test_each_two_both_ways_and_with_itself(self):
        table = [[False, True, True], [False, True, False], [True, False, False]]
        rule = TableRule(1, table)
        for low, high in itertools.product(range(3), repeat=2):
            self.says(rule, (9, low), (8, high), table[low][high])
        self.one_way(rule, (0, 0), (0, 1))
        self.both(rule, (0, 0), (0, 2))
        self.neither(rule, (0, 1), (0, 2))
        self.says(rule, (0, 1), (0, 1), True)

    def test_small_tables(self):
        self.says(TableRule(0, [[True]]), (0,), (0,), True)
        self.says(TableRule(0, [[False]]), (0,), (0,), False)
        self.assertEqual(TableRule(3, []).widest(), 3)


class Votes(RuleCase):
    UP = [KeyRule([(at, "up")]) for at in range(3)]

    def test_more_votes_win(self):
        rule = VoteRule(self.UP)
        self.one_way(rule, (0, 0, 9), (1, 1, 0))
        self.one_way(rule, (9, 0, 0), (0, 1, 1))
        self.one_way(rule, (0, 0, 0), (1, 1, 1))
        self.one_way(rule, (0, 4, 4), (1, 4, 4))

    def test_even_votes(self):
        rule = VoteRule(self.UP)
        self.neither(rule, (0, 1, 5), (1, 0, 5))
        self.neither(rule, (5, 5, 5), (5, 5, 5))
        self.neither(VoteRule([KeyRule([(0, "up")]), KeyRule([(0, "down")])]), (1,), (2,))

    def test_no_rules(self):
        self.neither(VoteRule([]), (1,), (2,))
        self.says(VoteRule([]), (1,), (1,), False)

    def test_a_thing_with_itself(self):
        self.says(VoteRule(self.UP), (1, 2, 3), (1, 2, 3), False)
        self.says(VoteRule([TableRule(0, [[True]])]), (0,), (0,), False)

    def test_a_rule_that_puts_each_before_the_other_counts_on_both_sides(self):
        each = TableRule(0, [[False, True], [True, False]])
        self.neither(VoteRule([each]), (0,), (1,))
        self.one_way(VoteRule([each, KeyRule([(0, "up")])]), (0,), (1,))

    def test_a_rule_by_itself_has_no_vote(self):
        self.one_way(VoteRule([Rule(), Rule(), KeyRule([(0, "up")])]), (1,), (2,))

    def test_the_same_rule_twice_has_two_votes(self):
        up = KeyRule([(0, "up")])
        self.one_way(VoteRule([KeyRule([(0, "down")]), up, up]), (1,), (2,))


class Chain(RuleCase):
    def test_the_first_that_puts_decides(self):
        rule = ChainRule([NearRule(0, 2), KeyRule([(1, "down")])])
        self.one_way(rule, (0, 1), (3, 9))
        self.one_way(rule, (0, 9), (2, 1))
        self.one_way(rule, (2, 9), (0, 1))
        self.neither(rule, (0, 4), (2, 4))

    def test_first_rules_that_put_neither(self):
        rule = ChainRule([Rule(), NearRule(0, 50), RingRule(0, 2), KeyRule([(0, "down")])])
        self.one_way(rule, (8,), (7,))

    def test_a_later_rule_does_not_overrule(self):
        rule = ChainRule([KeyRule([(0, "up")]), KeyRule([(0, "down")]), KeyRule([(0, "down")])])
        self.one_way(rule, (1,), (2,))

    def test_a_rule_that_puts_each_before_the_other_decides_both_ways(self):
        each = TableRule(0, [[False, True], [True, False]])
        self.both(ChainRule([each, KeyRule([(0, "up")])]), (0,), (1,))

    def test_no_rules(self):
        self.neither(ChainRule([]), (1,), (2,))
        self.says(ChainRule([]), (1,), (1,), False)

    def test_a_thing_with_itself(self):
        self.says(ChainRule([NearRule(0, 2), KeyRule([(1, "down")])]), (1, 2), (1, 2), False)
        self.says(ChainRule([Rule(), TableRule(0, [[True]])]), (0,), (0,), True)

    def test_votes_within_a_chain(self):
        votes = VoteRule([KeyRule([(at, "up")]) for at in range(3)])
        rule = ChainRule([votes, KeyRule([(2, "down")])])
        self.one_way(rule, (0, 0, 9), (1, 1, 0))
        self.one_way(rule, (5, 0, 9), (5, 1, 0))
        self.neither(ChainRule([votes]), (5, 0, 9), (5, 1, 0))


class Asked(RuleCase):
    def test_as_the_function_tells(self):
        rule = AskedRule(less_first)
        self.one_way(rule, (1,), (2,))
        self.neither(rule, (1,), (1,))
        self.says(rule, (1,), (1,), False)
        self.both(AskedRule(lambda x, y: True), "a", "b")
        self.says(AskedRule(lambda x, y: True), "a", "a", True)

    def test_asked_once_with_the_things_as_they_are(self):
        for told in (True, False):
            heard = []

            def teller(x, y):
                heard.append((x, y))
                return told

            rule = AskedRule(teller)
            self.assertEqual(heard, [])
            for x, y in [([1], {"a": 2}), ({"a": 2}, [1]), (None, "text")]:
                heard.clear()
                self.says(rule, x, y, told)
                self.assertEqual(len(heard), 1)
                self.assertIs(heard[0][0], x)
                self.assertIs(heard[0][1], y)

    def test_not_asked_for_the_widest(self):
        heard = []
        AskedRule(lambda x, y: heard.append((x, y))).widest()
        self.assertEqual(heard, [])

    def test_unlike_answers_to_one_ask(self):
        coming = [True, False, True]
        rule = AskedRule(lambda x, y: coming.pop(0))
        self.assertEqual([rule.before(1, 2) for turn in range(3)], [True, False, True])


def every_rule(at):
    """A rule of each kind, those of numbers with this at."""
    return [
        KeyRule([(at, "up")]),
        NearRule(at, 0),
        RingRule(at, 1),
        TableRule(at, [[True, False], [False, True]]),
        VoteRule([NearRule(at, 1)]),
        ChainRule([NearRule(at, 1)]),
        AskedRule(less_first),
    ]


class Refused(unittest.TestCase):
    def test_another_way(self):
        good = [(0, "up"), (1, "down"), (2, "up")]
        for wrong in ("", "Up", "UP", "DOWN", "up ", " down", "updown", "near"):
            for spot in range(3):
                columns = list(good)
                columns[spot] = (columns[spot][0], wrong)
                self.assertRaises(NoRule, KeyRule, columns)
            self.assertRaises(NoRule, KeyRule, [(0, wrong)])
        self.assertEqual(KeyRule(good).widest(), 2)

    def test_another_at(self):
        for at in (-1, 8, -8, 9, 10 ** 60, -10 ** 60):
            for way in ("up", "down"):
                self.assertRaises(NoRule, KeyRule, [(at, way)])
                for spot in range(3):
                    columns = [(0, "up"), (7, "down"), (3, "up")]
                    columns[spot] = (at, way)
                    self.assertRaises(NoRule, KeyRule, columns)
            self.assertRaises(NoRule, NearRule, at, 0)
            self.assertRaises(NoRule, RingRule, at, 5)
            self.assertRaises(NoRule, TableRule, at, [[True]])
            self.assertRaises(NoRule, TableRule, at, [])

    def test_every_good_at(self):
        for at in range(8):
            for rule in every_rule(at)[:6]:
                self.assertEqual(rule.widest(), at)

    def test_gap(self):
        for gap in (-1, -2, -10 ** 60):
            self.assertRaises(NoRule, NearRule, 0, gap)
        for gap in (0, 1, 10 ** 60):
            self.assertEqual(NearRule(0, gap).widest(), 0)

    def test_size(self):
        for size in (0, -1, -2, -10 ** 60):
            self.assertRaises(NoRule, RingRule, 0, size)
        for size in (1, 2, 10 ** 60):
            self.assertEqual(RingRule(0, size).widest(), 0)

    def test_table(self):
        for spot in range(3):
            for length in (0, 2, 4):
                table = [[False] * 3 for line in range(3)]
                table[spot] = [False] * length
                self.assertRaises(NoRule, TableRule, 0, table)
                table[spot] = [False] * 3
                self.assertEqual(TableRule(0, table).widest(), 0)
        self.assertRaises(NoRule, TableRule, 0, [[]])
        self.assertRaises(NoRule, TableRule, 0, [[True, False]])
        self.assertRaises(NoRule, TableRule, 0, [[True], [False]])

    def test_what_is_refused_stays_as_it_was(self):
        columns = [(0, "up"), (8, "up")]
        self.assertRaises(NoRule, KeyRule, columns)
        self.assertEqual(columns, [(0, "up"), (8, "up")])
        table = [[True, False], [True]]
        self.assertRaises(NoRule, TableRule, 0, table)
        self.assertEqual(table, [[True, False], [True]])


class Widest(unittest.TestCase):
    def widest_is(self, rule, wanted):
        told = rule.widest()
        self.assertEqual(told, wanted)
        self.assertIs(type(told), int)

    def test_none_named(self):
        self.widest_is(Rule(), -1)
        self.widest_is(AskedRule(less_first), -1)
        self.widest_is(KeyRule([]), -1)
        self.widest_is(VoteRule([]), -1)
        self.widest_is(ChainRule([]), -1)
        self.widest_is(VoteRule([Rule(), AskedRule(less_first)]), -1)
        self.widest_is(ChainRule([KeyRule([]), VoteRule([])]), -1)

    def test_one_at(self):
        for at in range(8):
            self.widest_is(NearRule(at, 9), at)
            self.widest_is(RingRule(at, 9), at)
            self.widest_is(TableRule(at, []), at)
            self.widest_is(KeyRule([(at, "down")]), at)

    def test_the_greatest_of_several(self):
        for first, second, third in itertools.permutations((0, 3, 6)):
            self.widest_is(KeyRule([(first, "up"), (second, "down"), (third, "up")]), 6)
            several = [NearRule(first, 9), KeyRule([(second, "up")]), TableRule(third, [])]
            self.widest_is(VoteRule(several), 6)
            self.widest_is(ChainRule(several), 6)
            self.widest_is(ChainRule([Rule(), VoteRule(several), RingRule(1, 1)]), 6)

    def test_nought_is_named(self):
        self.widest_is(ChainRule([VoteRule([AskedRule(less_first), NearRule(0, 0)]), Rule()]), 0)


class ListsHandedIn(RuleCase):
    def test_columns(self):
        columns = [(0, "up"), (1, "down")]
        rule = KeyRule(columns)
        self.one_way(rule, (1, 1), (1, 0))
        self.assertEqual(rule.widest(), 1)
        self.assertEqual(columns, [(0, "up"), (1, "down")])
        columns[0] = (0, "down")
        columns.append((7, "up"))
        self.one_way(rule, (1, 1), (2, 1))
        self.assertEqual(rule.widest(), 1)
        columns.clear()
        self.one_way(rule, (1, 1), (2, 1))

    def test_table_and_the_lists_within(self):
        table = [[False, True], [False, False]]
        rule = TableRule(0, table)
        self.one_way(rule, (0,), (1,))
        self.assertEqual(table, [[False, True], [False, False]])
        table[0][1] = False
        table[1][0] = True
        self.one_way(rule, (0,), (1,))
        table[0].clear()
        table.pop()
        self.one_way(rule, (0,), (1,))
        self.says(rule, (1,), (1,), False)

    def test_rules(self):
        for kind in (VoteRule, ChainRule):
            up = KeyRule([(0, "up")])
            rules = [up]
            rule = kind(rules)
            self.one_way(rule, (0,), (1,))
            self.assertEqual(rule.widest(), 0)
            self.assertEqual(len(rules), 1)
            self.assertIs(rules[0], up)
            rules[0] = KeyRule([(0, "down")])
            rules.append(KeyRule([(5, "down")]))
            self.one_way(rule, (0,), (1,))
            self.assertEqual(rule.widest(), 0)
            rules.clear()
            self.one_way(rule, (0,), (1,))


if __name__ == "__main__":
    unittest.main()
