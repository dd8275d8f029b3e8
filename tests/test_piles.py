"""The pile: points 31 to 35, with 2, 5, 6, 7, 8 and 9."""

import itertools
import unittest

import bounds
import models
from sorthall.askers import Asker
from sorthall.errors import Spent
from sorthall.papers import shows
from sorthall.piles import Pile, by_pile
from sorthall.stretches import stretches
from support import (
    DOWN, UP, HallCase, each_way_of_answers, fickle, in_order, one_paper, order_rules, row_of, rows_and_rules,
    some_rows, wild_rules,
)


def steps_of(asker, pile):
    """Behind each step the deed, what stands, the paper, and how many asks were made."""
    told = []
    while not told or told[-1][0] is not None:
        deed = pile.step()
        told.append((deed, pile.standing(), pile.paper(), asker.asked))
    return told


def parts_of(many):
    return [None] + [part for part in ((0, many), (0, 0), (many, many), (1, many), (2, many - 1), (3, 4))
                     if 0 <= part[0] <= part[1] <= many]


class PileCase(HallCase):
    def as_told(self, row, rule, least, part):
        """Each step is as the model tells it, and keeps what points 34 and 35 promise."""
        asker = Asker(row, rule)
        pile = Pile(asker, least, part)
        self.whole(asker.asked, 0)
        first, beyond = (0, len(row)) if part is None else part
        self.assertEqual((pile.standing(), pile.paper()), ([], list(range(first, beyond))))
        told = steps_of(asker, pile)
        self.as_the_model(asker, told, lambda ahead: models.pile(ahead, first, beyond, least))
        self.kinds(told)
        self.heights(told, first, beyond)
        self.asks(told, beyond)
        self.joins_of_each_place(told)
        self.assertIsNone(pile.step())
        self.assertEqual(asker.asked, told[-1][3])
        return asker, told

    def kinds(self, told):
        for deed, standing, paper, asked in told:
            self.whole_list(paper)
            self.assertIs(type(standing), list)
            for part in standing:
                self.assertIs(type(part), tuple)
                self.whole_list(list(part))
            if deed is not None:
                self.assertIs(type(deed), tuple)
                self.assertEqual([type(value) for value in deed], [str, int, int, int])

    def heights(self, told, first, beyond):
        most = (beyond - first - 1).bit_length() + 2
        for deed, standing, paper, asked in told:
            self.assertLessEqual(len(standing), most)
            ends = [first] + [part[1] for part in standing]
            self.assertEqual([part[0] for part in standing], ends[:-1])
            grades = [part[2] for part in standing][:-1]
            due = len(grades) > 1 and grades[-2] > grades[-1]
            if not due:
                self.assertEqual(grades, sorted(set(grades)))

    def asks(self, told, end):
        asked_before = 0
        paper_before = None
        for deed, standing, paper, asked in told:
            made = asked - asked_before
            if deed is None:
                self.assertEqual(made, 0)
            elif deed[0] == "lay":
                word, first, found, beyond = deed
                own = found - first - 1 + (found != end)
                put = sum(number.bit_length() for number in range(found - first, beyond - first))
                self.assertTrue(own <= made <= own + put)
            else:
                word, first, middle, beyond = deed
                start = first - told[0][1][0][0]
                order = paper[start:start + beyond - first]
                left = paper_before[start:start + middle - first]
                self.assertEqual(sorted(left), list(range(first, middle)))
                self.assertLessEqual(made, bounds.joined(middle - first, beyond - middle))
                self.assertLessEqual(made, bounds.blocks(order, left))
            asked_before = asked
            paper_before = paper

    def joins_of_each_place(self, told):
        lays = [deed for deed, standing, paper, asked in told if deed is not None and deed[0] == "lay"]
        joins = [deed for deed, standing, paper, asked in told if deed is not None and deed[0] == "join"]
        seams = {}
        for deed, standing, paper, asked in told:
            for lower, upper in zip(standing, standing[1:]):
                self.assertEqual(seams.setdefault(upper[0], lower[2]), lower[2])
        for word, first, found, beyond in lays:
            most = max(seams.get(first, 0), seams.get(beyond, 0))
            for place in range(first, beyond):
                met = [join for join in joins if join[1] <= place < join[3]]
                self.assertLessEqual(len(met), most)
        self.assertEqual(len(joins), max(0, len(lays) - 1))


class Steps(PileCase):
    def test_a_row_in_one_stretch(self):
        asker, told = self.as_told(row_of(1, 2, 3), UP, 1, None)
        self.assertEqual(told, [
            (("lay", 0, 3, 3), [(0, 3, 0)], [0, 1, 2], 2),
            (None, [(0, 3, 0)], [0, 1, 2], 2),
        ])
        asker, told = self.as_told(row_of(3, 2, 1), UP, 1, None)
        self.assertEqual(told[0], (("lay", 0, 3, 3), [(0, 3, 0)], [2, 1, 0], 2))

    def test_none_and_one(self):
        asker, told = self.as_told([], UP, 1, None)
        self.assertEqual(told, [(None, [], [], 0)])
        asker, told = self.as_told(row_of(7), UP, 5, None)
        self.assertEqual(told, [(("lay", 0, 1, 1), [(0, 1, 0)], [0], 0), (None, [(0, 1, 0)], [0], 0)])

    def test_three_stretches_and_a_join_beneath(self):
        # Seams: (0, 2, 4) of 10 has grade 2, (2, 4, 10) has grade 1: the lower one is joined first.
        row = row_of(5, 6, 1, 2, 0, 1, 2, 3, 4, 5)
        asker, told = self.as_told(row, UP, 1, None)
        self.assertEqual([step[:3] for step in told], [
            (("lay", 0, 2, 2), [(0, 2, 0)], [0, 1, 2, 3, 4, 5, 6, 7, 8, 9]),
            (("lay", 2, 4, 4), [(0, 2, 2), (2, 4, 0)], [0, 1, 2, 3, 4, 5, 6, 7, 8, 9]),
            (("lay", 4, 10, 10), [(0, 2, 2), (2, 4, 1), (4, 10, 0)], [0, 1, 2, 3, 4, 5, 6, 7, 8, 9]),
            (("join", 0, 2, 4), [(0, 4, 1), (4, 10, 0)], [2, 3, 0, 1, 4, 5, 6, 7, 8, 9]),
            (("join", 0, 4, 10), [(0, 10, 0)], [4, 2, 5, 3, 6, 7, 8, 0, 9, 1]),
            (None, [(0, 10, 0)], [4, 2, 5, 3, 6, 7, 8, 0, 9, 1]),
        ])

    def test_seams_that_rise_are_joined_from_the_top(self):
        # Seams: (0, 6, 8) of 10 has grade 1, (6, 8, 10) has grade 2: nothing is due beneath.
        row = row_of(0, 1, 2, 3, 4, 5, 1, 2, 1, 2)
        asker, told = self.as_told(row, UP, 1, None)
        self.assertEqual([step[:2] for step in told], [
            (("lay", 0, 6, 6), [(0, 6, 0)]),
            (("lay", 6, 8, 8), [(0, 6, 1), (6, 8, 0)]),
            (("lay", 8, 10, 10), [(0, 6, 1), (6, 8, 2), (8, 10, 0)]),
            (("join", 6, 8, 10), [(0, 6, 1), (6, 10, 0)]),
            (("join", 0, 6, 10), [(0, 10, 0)]),
            (None, [(0, 10, 0)]),
        ])

    def test_filled(self):
        asker, told = self.as_told(row_of(2, 1, 0, 5, 3, 4, 9), UP, 4, None)
        self.assertEqual([step[:3] for step in told], [
            (("lay", 0, 3, 4), [(0, 4, 0)], [2, 1, 0, 3, 4, 5, 6]),
            (("lay", 4, 7, 7), [(0, 4, 1), (4, 7, 0)], [2, 1, 0, 3, 4, 5, 6]),
            (("join", 0, 4, 7), [(0, 7, 0)], [2, 1, 0, 4, 5, 3, 6]),
            (None, [(0, 7, 0)], [2, 1, 0, 4, 5, 3, 6]),
        ])

    def test_a_part(self):
        row = row_of(9, 3, 4, 1, 2, 0)
        asker, told = self.as_told(row, UP, 1, (1, 5))
        self.assertEqual([step[:3] for step in told], [
            (("lay", 1, 3, 3), [(1, 3, 0)], [1, 2, 3, 4]),
            (("lay", 3, 5, 5), [(1, 3, 1), (3, 5, 0)], [1, 2, 3, 4]),
            (("join", 1, 3, 5), [(1, 5, 0)], [3, 4, 1, 2]),
            (None, [(1, 5, 0)], [3, 4, 1, 2]),
        ])

    def test_grades_of_a_part_are_counted_from_its_first(self):
        row = some_rows(40)[2]
        asker, whole = self.as_told(row[10:34], UP, 1, None)
        asker, part = self.as_told(row, UP, 1, (10, 34))
        self.assertEqual(len(whole), len(part))
        for one, other in zip(whole, part):
            self.assertEqual([(a + 10, b + 10, c) for a, b, c in one[1]], other[1])
            self.assertEqual([place + 10 for place in one[2]], other[2])

    def test_rows_of_all_kinds(self):
        for row, rule in rows_and_rules((0, 1, 2, 3, 10, 33), order_rules() + wild_rules()):
            for least, part in itertools.product((1, 2, 5, 16), parts_of(len(row))):
                self.as_told(row, rule, least, part)

    def test_stretches_are_in_order_at_every_step(self):
        for row, rule in rows_and_rules((12, 30), order_rules()):
            for least in (1, 4):
                asker, told = self.as_told(row, rule, least, None)
                for deed, standing, paper, asked in told:
                    wanted = [place for part in standing for place in in_order(row, rule, range(part[0], part[1]))]
                    self.assertEqual(paper[:len(wanted)], wanted)
                    self.assertEqual(paper[len(wanted):], list(range(len(wanted), len(row))))

    def test_whatever_is_told(self):
        for many, least in ((6, 1), (5, 3)):
            each_way_of_answers(lambda rule: self.as_told([None] * many, rule, least, None))

    def test_three_hundred(self):
        for row in some_rows(300):
            self.as_told(row, UP, 1, None)
            self.as_told(row, UP, 32, (3, 299))

    def test_told_lists_stay(self):
        asker = Asker(row_of(3, 4, 1, 2, 0), UP)
        pile = Pile(asker)
        pile.step()
        standing = pile.standing()
        paper = pile.paper()
        kept = (list(standing), list(paper))
        steps_of(asker, pile)
        self.assertEqual((standing, paper), kept)
        standing = pile.standing()
        paper = pile.paper()
        standing.clear()
        paper.clear()
        self.assertEqual((pile.standing(), pile.paper()), ([(0, 5, 0)], [4, 2, 3, 0, 1]))

    def test_named_arguments(self):
        pile = Pile(Asker(row_of(3, 4, 1), UP), part=(1, 3), least=2)
        self.assertEqual(pile.step(), ("lay", 1, 3, 3))
        self.assertEqual(by_pile(Asker(row_of(3, 4, 1), UP), part=(1, 3), least=2), [2, 1])


class ByPile(PileCase):
    def test_the_one_paper(self):
        for row, rule in rows_and_rules((0, 1, 2, 3, 9, 40), order_rules()):
            for least in (1, 2, 3, 8, 300):
                asker = Asker(row, rule)
                told = by_pile(asker, least)
                self.whole_list(told)
                self.assertEqual(told, one_paper(row, rule))
                self.assertIs(shows(told, asker.answers()), True)

    def test_each_short_row(self):
        for many in range(7):
            for numbers in itertools.product(range(3), repeat=many):
                row = row_of(*numbers)
                for least in (1, 3):
                    asker = Asker(row, UP)
                    told = by_pile(asker, least)
                    self.assertEqual(told, one_paper(row, UP))
                    self.assertIs(shows(told, asker.answers()), True)

    def test_parts(self):
        for row, rule in rows_and_rules((9,), order_rules()):
            for part in itertools.combinations_with_replacement(range(10), 2):
                for least in (1, 4):
                    self.assertEqual(by_pile(Asker(row, rule), least, part), in_order(row, rule, range(*part)))

    def test_as_steps_to_the_end(self):
        for row, rule in rows_and_rules((9,), order_rules() + wild_rules()[:5]):
            asker = Asker(row, rule)
            told = steps_of(asker, Pile(asker, 3))
            other = Asker(row, rule)
            self.assertEqual(by_pile(other, 3), told[-1][2])
            self.assertEqual(other.answers(), asker.answers())

    def test_spent_and_given_more(self):
        for row, rule in rows_and_rules((2, 13), (UP, DOWN, wild_rules()[1])):
            for least in (1, 4):
                self.spent_and_widened(row, rule, lambda asker: by_pile(asker, least))
            if len(row) > 2:
                self.spent_and_widened(row, rule, lambda asker: by_pile(asker, 2, (1, 12)))


class BoundOfAsks(PileCase):
    def bound(self, row, rule):
        """Point 7, for the stretches that the pile lays."""
        asker = Asker(row, rule)
        pile = Pile(asker)
        told = steps_of(asker, pile)
        lengths = [deed[3] - deed[1] for deed, standing, paper, asked in told if deed and deed[0] == "lay"]
        self.assertEqual(sum(lengths), len(row))
        self.assertLessEqual(asker.asked, bounds.laid_pile(len(row), lengths))
        return lengths

    def test_rows_in_order_and_falling(self):
        for many in (1, 2, 3, 50, 300):
            for numbers in (range(many), range(many, 0, -1), [4] * many):
                for rule in (UP, DOWN):
                    if rule is UP or len(set(numbers)) == many:
                        asker = Asker(row_of(*numbers), rule)
                        by_pile(asker)
                        self.whole(asker.asked, many - 1)
                        asker = Asker(row_of(*numbers), rule)
                        by_pile(asker, 1)
                        self.whole(asker.asked, many - 1)

    def test_rows_of_all_kinds(self):
        for row, rule in rows_and_rules((1, 2, 3, 4, 7, 12, 50, 120), order_rules() + wild_rules()):
            self.bound(row, rule)

    def test_the_stretches_are_those_of_point_24(self):
        for row, rule in rows_and_rules((1, 7, 50), order_rules() + wild_rules()[:5]):
            found = [beyond - first for first, beyond, falling in stretches(Asker(row, rule))]
            self.assertEqual(self.bound(row, rule), found)

    def test_each_short_row(self):
        for many in range(1, 8):
            for numbers in itertools.permutations(range(many)):
                self.bound(row_of(*numbers), UP)

    def test_whatever_is_told(self):
        for many in (1, 2, 3, 4, 5, 6):
            each_way_of_answers(lambda rule: self.bound([None] * many, rule))

    def test_unlike_answers(self):
        for seed in range(100):
            self.bound([None] * (seed + 1), fickle(seed))
            told = by_pile(Asker([None] * seed, fickle(seed)), 1 + seed % 7)
            self.each_once(told, range(seed))


class RefusedSteps(PileCase):
    def test_a_refused_step_leaves_the_pile_as_it_was(self):
        for row, rule in rows_and_rules((2, 11), (UP, DOWN, wild_rules()[2])):
            for least in (1, 4):
                free = Asker(row, rule)
                wanted = steps_of(free, Pile(free, least))
                for most in range(free.asked):
                    self.refused_once(row, rule, least, most, wanted)

    def refused_once(self, row, rule, least, most, wanted):
        asker = Asker(row, rule, most)
        pile = Pile(asker, least)
        told = []
        with self.assertRaises(Spent) as taken:
            while True:
                told.append((pile.step(), pile.standing(), pile.paper(), asker.asked))
        self.whole(taken.exception.asked, most)
        self.whole(asker.asked, most)
        self.assertEqual(told, wanted[:len(told)])
        before = wanted[len(told) - 1] if told else (None, [], list(range(len(row))), 0)
        self.assertEqual((pile.standing(), pile.paper()), before[1:3])
        self.assertRaises(Spent, pile.step)
        self.assertEqual((pile.standing(), pile.paper()), before[1:3])
        asker.widen(wanted[-1][3])
        begun = most - before[3]
        rest = [(deed, standing, paper, asked - begun) for deed, standing, paper, asked in steps_of(asker, pile)]
        self.assertEqual(rest, wanted[len(told):])

    def test_given_more_and_more(self):
        row = some_rows(14)[2]
        asker = Asker(row, UP, 0)
        pile = Pile(asker, 3)
        refused = 0
        done = False
        while not done:
            self.assertLess(refused, 50)
            try:
                done = pile.step() is None
            except Spent:
                refused += 1
                asker.widen(refused)
        self.assertGreater(refused, 5)
        self.assertEqual(pile.paper(), one_paper(row, UP))


if __name__ == "__main__":
    unittest.main()
