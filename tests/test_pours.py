"""Pours: points 36 to 38, with 2, 5, 6, 8 and 9."""

import itertools
import random
import unittest

import bounds
import models
from sorthall.askers import Asker
from sorthall.errors import Spent
from sorthall.papers import shows
from sorthall.piles import by_pile
from sorthall.pours import LastPour, Pour, poured
from support import (
    DOWN, UP, HallCase, each_way_of_answers, fickle, in_order, one_paper, order_rules, row_of, rows_and_rules, wild_rules,
)


def dealt(many, heaps, seed=0):
    """The places dealt by chance into so many heaps, some of them perhaps empty."""
    chance = random.Random(seed)
    told = [[] for heap in range(heaps)]
    for place in range(many):
        told[chance.randrange(heaps)].append(place)
    return told


def takes_of(asker, pour):
    """Behind the making and each take what was taken, the first, what is left, and how many asks were made."""
    told = [(None, pour.first(), pour.left(), asker.asked)]
    while pour.first() is not None:
        place = pour.take()
        told.append((place, pour.first(), pour.left(), asker.asked))
    return told


class PourCase(HallCase):
    def as_told(self, row, rule, pieces, last=False):
        """The making and each take are as the model tells them, within the bounds."""
        kept = [list(piece) for piece in pieces]
        asker = Asker(row, rule)
        pour = LastPour(asker, pieces) if last else Pour(asker, pieces)
        told = takes_of(asker, pour)
        self.as_the_model(asker, told, lambda ahead: models.pour(ahead, pieces, last))
        self.assertEqual(pieces, kept)
        self.assertIsNone(pour.take())
        self.assertIsNone(pour.first())
        self.whole(pour.left(), 0)
        self.assertEqual(asker.asked, told[-1][3])
        self.bounds(told, pieces)
        self.each_once([step[0] for step in told[1:]], sum(pieces, []))
        for place, first, left, asked in told:
            self.assertIs(type(left), int)
        return asker, told

    def bounds(self, told, pieces):
        many = len(pieces)
        self.assertLessEqual(told[0][3], max(0, many - 1))
        for before, behind in zip(told, told[1:]):
            self.assertLessEqual(behind[3] - before[3], (many - 1).bit_length())
        self.assertLessEqual(told[-1][3], bounds.poured(pieces))


class Meetings(PourCase):
    def test_no_piece(self):
        for kind in (Pour, LastPour):
            pour = kind(Asker(row_of(1, 2), UP, 0), [])
            self.assertIsNone(pour.first())
            self.assertIsNone(pour.take())
            self.whole(pour.left(), 0)

    def test_empty_pieces(self):
        for kind, pieces in itertools.product((Pour, LastPour), ([[]], [[], []], [[], [], []])):
            pour = kind(Asker(row_of(1, 2), UP, 0), pieces)
            self.assertIsNone(pour.first())
            self.assertIsNone(pour.take())
            self.whole(pour.left(), 0)

    def test_one_piece(self):
        for pieces in ([[2, 0, 1]], [[], [2, 0, 1]], [[2, 0, 1], []], [[], [], [2, 0, 1], []]):
            pour = Pour(Asker(row_of(2, 3, 1), UP, 0), pieces)
            self.assertEqual([pour.take() for turn in range(4)], [2, 0, 1, None])
            pour = LastPour(Asker(row_of(2, 3, 1), UP, 0), pieces)
            self.assertEqual([pour.take() for turn in range(4)], [1, 0, 2, None])

    def test_two_pieces(self):
        asker, told = self.as_told(row_of(1, 3, 2, 4), UP, [[0, 1], [2, 3]])
        self.assertEqual(told, [(None, 0, 4, 1), (0, 2, 3, 2), (2, 1, 2, 3), (1, 3, 1, 3), (3, None, 0, 3)])
        self.assertEqual(asker.answers(), [(2, 0, False), (2, 1, True), (3, 1, False)])

    def test_two_pieces_from_behind(self):
        asker, told = self.as_told(row_of(1, 3, 2, 4), UP, [[0, 1], [2, 3]], True)
        self.assertEqual(told, [(None, 3, 4, 1), (3, 1, 3, 2), (1, 2, 2, 3), (2, 0, 1, 3), (0, None, 0, 3)])
        self.assertEqual(asker.answers(), [(3, 1, False), (2, 1, True), (2, 0, False)])

    def test_the_tree_of_five(self):
        row = row_of(50, 20, 30, 10, 40)
        asker, told = self.as_told(row, UP, [[0], [1], [2], [3], [4]])
        making = [(1, 0, True), (2, 1, False), (4, 3, False), (3, 1, True)]
        takes = [(4, 1, False), (2, 0, True), (4, 2, False), (4, 0, True)]
        self.assertEqual(asker.answers(), making + takes)
        self.assertEqual([step[0] for step in told[1:]], [3, 1, 2, 4, 0])
        self.assertEqual([step[3] for step in told], [4, 5, 7, 8, 8, 8])

    def test_the_tree_of_five_from_behind(self):
        row = row_of(50, 20, 30, 10, 40)
        asker, told = self.as_told(row, UP, [[0], [1], [2], [3], [4]], True)
        making = [(1, 0, True), (2, 0, True), (4, 3, False), (4, 0, True)]
        takes = [(2, 1, False), (4, 2, False), (3, 2, True), (3, 1, True)]
        self.assertEqual(asker.answers(), making + takes)
        self.assertEqual([step[0] for step in told[1:]], [0, 4, 2, 1, 3])

    def test_nothing_comes_from_a_side(self):
        asker, told = self.as_told(row_of(3, 1, 2), UP, [[], [1, 0], [], [2], []])
        self.assertEqual(asker.answers(), [(2, 1, False), (2, 0, True)])
        self.assertEqual([step[0] for step in told[1:]], [1, 2, 0])

    def test_first_asks_nothing_and_takes_nothing(self):
        asker = Asker(row_of(3, 1, 2), UP)
        pour = Pour(asker, [[0], [1], [2]])
        asked = asker.asked
        for turn in range(3):
            self.whole(pour.first(), 1)
            self.whole(pour.left(), 3)
        self.whole(asker.asked, asked)
        self.whole(pour.take(), 1)
        self.whole(pour.left(), 2)

    def test_alike_things_keep_their_turn(self):
        for pieces in ([[0], [1], [2]], [[2], [0], [1]], [[0, 2], [1]]):
            self.assertEqual([step[0] for step in self.as_told(row_of(5, 5, 5), UP, pieces)[1][1:]], [0, 1, 2])
            self.assertEqual([step[0] for step in self.as_told(row_of(5, 5, 5), UP, pieces, True)[1][1:]], [2, 1, 0])

    def test_a_last_pour_is_a_pour(self):
        self.assertIsInstance(LastPour(Asker([], UP), []), Pour)


class Rows(PourCase):
    def test_rows_of_all_kinds(self):
        for row, rule in rows_and_rules((1, 2, 7, 25), order_rules()):
            for heaps in (1, 2, 3, 4, 5, 8, 13):
                pieces = [in_order(row, rule, heap) for heap in dealt(len(row), heaps, heaps)]
                asker, told = self.as_told(row, rule, pieces)
                self.assertEqual([step[0] for step in told[1:]], one_paper(row, rule))
                asker, told = self.as_told(row, rule, pieces, True)
                self.assertEqual([step[0] for step in told[1:]], one_paper(row, rule)[::-1])
                self.assertEqual(poured(Asker(row, rule), pieces), one_paper(row, rule))

    def test_each_number_of_pieces_singly(self):
        for many in range(1, 40):
            row = row_of(*[place * 23 % 41 for place in range(many)])
            pieces = [[place] for place in range(many)]
            asker, told = self.as_told(row, UP, pieces)
            self.assertEqual(told[0][3], many - 1)
            self.as_told(row, UP, pieces, True)

    def test_three_hundred_pieces(self):
        row = row_of(*[place * 89 % 300 for place in range(300)])
        self.as_told(row, UP, [[place] for place in range(300)])

    def test_some_of_the_rows_places_alone(self):
        row = row_of(*range(10, 0, -1))
        self.assertEqual(poured(Asker(row, UP), [[7, 3], [5]]), [7, 5, 3])

    def test_answers_show_the_paper(self):
        for row, rule in rows_and_rules((2, 9, 20), order_rules()):
            for wide in (1, 2, 4, 7):
                asker = Asker(row, rule)
                ends = [*range(0, len(row), wide), len(row)]
                pieces = [by_pile(asker, 1, part) for part in zip(ends, ends[1:])]
                told = poured(asker, pieces)
                self.assertEqual(told, one_paper(row, rule))
                self.assertIs(shows(told, asker.answers()), True)

    def test_pieces_changed_afterwards_change_nothing(self):
        for kind, wanted in ((Pour, [1, 0, 2]), (LastPour, [2, 0, 1])):
            pieces = [[1, 2], [0]]
            pour = kind(Asker(row_of(2, 1, 3), UP), pieces)
            pieces[0].clear()
            pieces.append([9])
            self.assertEqual([pour.take() for turn in range(3)], wanted)


class Whatever(PourCase):
    def test_each_way_of_answers(self):
        for pieces in ([[0], [1], [2], [3], [4]], [[0, 1], [2, 3], [4]], [[2, 0, 1], [], [3], [4]]):
            each_way_of_answers(lambda rule: self.as_told([None] * 5, rule, pieces))
            each_way_of_answers(lambda rule: self.as_told([None] * 5, rule, pieces, True))

    def test_rules_that_are_no_order(self):
        for row, rule in rows_and_rules((1, 9, 30), wild_rules()):
            for heaps in (1, 3, 8):
                pieces = dealt(len(row), heaps, 5)
                self.as_told(row, rule, pieces)
                self.as_told(row, rule, pieces, True)

    def test_unlike_answers(self):
        for seed in range(60):
            pieces = dealt(seed, 1 + seed // 3, seed)
            self.as_told([None] * seed, fickle(seed), pieces, seed % 2 == 1)
            asker = Asker([None] * seed, fickle(seed))
            self.each_once(poured(asker, pieces), range(seed))
            self.assertLessEqual(asker.asked, bounds.poured(pieces))


class Poured(PourCase):
    def test_what_is_told_and_asked(self):
        for row, rule in rows_and_rules((1, 9), order_rules() + wild_rules()):
            for heaps in (1, 2, 5):
                pieces = [in_order(row, UP, heap) for heap in dealt(len(row), heaps, 1)]
                asker = Asker(row, rule)
                told = poured(asker, pieces)
                self.each_once(told, range(len(row)))
                self.as_the_model(asker, told, lambda ahead: models.poured(ahead, pieces))
                self.assertLessEqual(asker.asked, bounds.poured(pieces))

    def test_no_pieces_and_empty_ones(self):
        for pieces in ([], [[]], [[], []]):
            self.assertEqual(poured(Asker([], UP, 0), pieces), [])

    def test_one_piece_is_told_as_a_copy(self):
        piece = [1, 0]
        poured(Asker(row_of(2, 1), UP), [piece]).append(9)
        self.assertEqual(piece, [1, 0])

    def test_spent_and_given_more(self):
        for row, rule in rows_and_rules((9,), (UP, DOWN)):
            for heaps in (2, 4, 9):
                pieces = [in_order(row, rule, heap) for heap in dealt(9, heaps, heaps)]
                self.spent_and_widened(row, rule, lambda asker: poured(asker, pieces))


class RefusedTakes(PourCase):
    def refused_once(self, row, rule, pieces, kind, most, wanted):
        asker = Asker(row, rule, most)
        if most < wanted[0][3]:
            with self.assertRaises(Spent) as taken:
                kind(asker, pieces)
            self.whole(taken.exception.asked, most)
            asker.widen(wanted[-1][3])
            told = takes_of(asker, kind(asker, pieces))
            self.assertEqual([step[:3] for step in told], [step[:3] for step in wanted])
            return
        pour = kind(asker, pieces)
        told = [(None, pour.first(), pour.left(), asker.asked)]
        with self.assertRaises(Spent) as taken:
            for turn in range(len(wanted)):
                told.append((pour.take(), pour.first(), pour.left(), asker.asked))
        self.whole(taken.exception.asked, most)
        self.assertEqual(told, wanted[:len(told)])
        for turn in range(2):
            self.assertEqual((pour.first(), pour.left()), told[-1][1:3])
            self.assertRaises(Spent, pour.take)
            self.whole(asker.asked, most)
        asker.widen(wanted[-1][3])
        begun = most - told[-1][3]
        rest = [(place, first, left, asked - begun) for place, first, left, asked in takes_of(asker, pour)]
        self.assertEqual(rest[1:], wanted[len(told):])

    def test_a_refused_take_takes_nothing(self):
        for row, rule in rows_and_rules((8,), (UP, DOWN, wild_rules()[1])):
            for heaps, kind in itertools.product((2, 3, 6), (Pour, LastPour)):
                pieces = [in_order(row, UP, heap) for heap in dealt(8, heaps, heaps)]
                free = Asker(row, rule)
                wanted = takes_of(free, kind(free, pieces))
                for most in range(free.asked):
                    self.refused_once(row, rule, pieces, kind, most, wanted)


if __name__ == "__main__":
    unittest.main()
