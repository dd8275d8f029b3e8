"""Joins: points 28 and 29, with 2, 5, 6, 8 and 9."""

import itertools
import random
import unittest

import bounds
import models
from sorthall.askers import Asker
from sorthall.joins import joined
from sorthall.papers import shows
from sorthall.putting import by_putting
from support import (
    DOWN, UP, HallCase, each_way_of_answers, fickle, in_order, one_paper, order_rules, row_of, rows_and_rules, wild_rules,
)


def dealt(many, seed):
    """The places dealt into two heaps by chance."""
    chance = random.Random(seed)
    heaps = ([], [])
    for place in range(many):
        heaps[chance.randrange(2)].append(place)
    return heaps


class JoinCase(HallCase):
    def kept_to(self, asker, told, left, right, asked_before=0):
        """Each place once, as the model asks, within both bounds."""
        self.each_once(told, left + right)
        self.as_the_model(asker, told, lambda ahead: models.joined(ahead, left, right), asked_before)
        asked = asker.asked - asked_before
        self.assertLessEqual(asked, bounds.joined(len(left), len(right)))
        self.assertLessEqual(asked, bounds.blocks(told, left))

    def joins(self, numbers, left, right, wanted, answers):
        asker = Asker(row_of(*numbers), UP)
        told = joined(asker, left, right)
        self.assertEqual(told, wanted)
        self.assertEqual(asker.answers(), answers)
        self.kept_to(asker, told, left, right)


class Asks(JoinCase):
    def test_fronts(self):
        self.joins([1, 3, 2, 4], [0, 1], [2, 3], [0, 2, 1, 3], [(2, 0, False), (2, 1, True), (3, 1, False)])
        self.joins([2, 1], [0], [1], [1, 0], [(1, 0, True)])

    def test_the_left_one_may_have_the_later_places(self):
        self.joins([5, 5, 1], [2, 1], [0], [2, 0, 1], [(2, 0, True), (1, 0, False)])

    def test_one_side_empty(self):
        self.joins([1, 2, 3], [0, 1, 2], [], [0, 1, 2], [])
        self.joins([1, 2, 3], [], [0, 1, 2], [0, 1, 2], [])
        self.joins([], [], [], [], [])

    def test_four_wins_and_none_left(self):
        row = [1, 2, 3, 4, 9]
        answers = [(4, place, False) for place in range(4)]
        self.joins(row, [0, 1, 2, 3], [4], [0, 1, 2, 3, 4], answers)

    def test_a_leap_of_the_left_to_its_end(self):
        row = [1, 2, 3, 4, 5, 6, 7, 9]
        answers = [(7, place, False) for place in (0, 1, 2, 3, 4, 5, 6)]
        self.joins(row, [0, 1, 2, 3, 4, 5, 6], [7], [0, 1, 2, 3, 4, 5, 6, 7], answers)

    def test_a_leap_and_the_others_front_without_an_ask(self):
        row = [1, 2, 3, 4, 5, 6, 20, 21, 10, 30]
        left = [0, 1, 2, 3, 4, 5, 6, 7]
        answers = [(8, place, False) for place in (0, 1, 2, 3, 4, 5)]
        answers += [(8, 7, True), (8, 6, True), (9, 6, False), (9, 7, False)]
        self.joins(row, left, [8, 9], [0, 1, 2, 3, 4, 5, 8, 6, 7, 9], answers)

    def test_a_leap_that_finds_none(self):
        row = [1, 2, 3, 4, 20, 21, 10, 11, 30]
        answers = [(6, place, False) for place in (0, 1, 2, 3)]
        answers += [(6, 4, True), (7, 4, True), (8, 4, False), (8, 5, False)]
        self.joins(row, [0, 1, 2, 3, 4, 5], [6, 7, 8], [0, 1, 2, 3, 6, 7, 4, 5, 8], answers)

    def test_a_leap_of_the_right(self):
        row = [10, 30, 1, 2, 3, 4, 5, 6, 20, 21]
        answers = [(place, 0, True) for place in (2, 3, 4, 5, 6, 7)]
        answers += [(9, 0, False), (8, 0, False), (8, 1, True), (9, 1, True)]
        self.joins(row, [0, 1], [2, 3, 4, 5, 6, 7, 8, 9], [2, 3, 4, 5, 6, 7, 0, 8, 9, 1], answers)

    def test_wins_are_counted_anew_behind_a_leap(self):
        row = list(range(4)) + [20, 21, 22, 23, 24, 25] + [10, 40]
        left = list(range(10))
        answers = [(10, place, False) for place in (0, 1, 2, 3)] + [(10, 4, True)]
        answers += [(11, place, False) for place in (4, 5, 6, 7, 8, 9)]
        self.joins(row, left, [10, 11], [0, 1, 2, 3, 10, 4, 5, 6, 7, 8, 9, 11], answers)

    def test_the_front_that_is_taken_without_an_ask_is_no_win(self):
        row = [1, 2, 3, 4, 30, 31] + [10, 11, 12, 13, 14, 15]
        answers = [(6, place, False) for place in (0, 1, 2, 3)] + [(6, 4, True)]
        answers += [(place, 4, True) for place in (7, 8, 9, 10, 11)]
        wanted = [0, 1, 2, 3, 6, 7, 8, 9, 10, 11, 4, 5]
        self.joins(row, [0, 1, 2, 3, 4, 5], [6, 7, 8, 9, 10, 11], wanted, answers)

    def test_wins_not_in_a_row(self):
        row = [1, 2, 3, 6, 7, 8, 9] + [4, 5, 20]
        answers = [(7, place, False) for place in (0, 1, 2)] + [(7, 3, True), (8, 3, True)]
        answers += [(9, place, False) for place in (3, 4, 5, 6)]
        self.joins(row, [0, 1, 2, 3, 4, 5, 6], [7, 8, 9], [0, 1, 2, 7, 8, 3, 4, 5, 6, 9], answers)


class Orders(JoinCase):
    def test_each_dealing_of_short_rows(self):
        for many in range(8):
            for numbers in ([0] * many, list(range(many)), [place % 3 for place in range(many)]):
                row = row_of(*numbers)
                for rule, sides in itertools.product((UP, DOWN), itertools.product((0, 1), repeat=many)):
                    left = in_order(row, rule, [place for place in range(many) if not sides[place]])
                    right = in_order(row, rule, [place for place in range(many) if sides[place]])
                    asker = Asker(row, rule)
                    told = joined(asker, left, right)
                    self.assertEqual(told, one_paper(row, rule))
                    self.kept_to(asker, told, left, right)

    def test_rows_of_all_kinds(self):
        for row, rule in rows_and_rules((1, 2, 9, 40), order_rules()):
            for heaps in [dealt(len(row), seed) for seed in range(3)]:
                left = in_order(row, rule, heaps[0])
                right = in_order(row, rule, heaps[1])
                kept = (list(left), list(right))
                asker = Asker(row, rule)
                told = joined(asker, left, right)
                self.assertEqual(told, one_paper(row, rule))
                self.assertEqual((left, right), kept)
                self.kept_to(asker, told, left, right)

    def test_halves_of_rows_with_leaps(self):
        for low, high in ((0, 150), (100, 150), (140, 150), (0, 300)):
            row = row_of(*range(low, low + 150), *range(high, high + 150))
            for rule in (UP, DOWN):
                left = in_order(row, rule, range(150))
                right = in_order(row, rule, range(150, 300))
                for one, other in ((left, right), (right, left)):
                    asker = Asker(row, rule)
                    told = joined(asker, one, other)
                    self.assertEqual(told, one_paper(row, rule))
                    self.kept_to(asker, told, one, other)

    def test_answers_show_the_paper(self):
        for row, rule in rows_and_rules((2, 9, 30), order_rules()):
            for heaps in [dealt(len(row), seed) for seed in range(3)]:
                asker = Asker(row, rule)
                orders = []
                for heap in heaps:
                    part = [row[place] for place in heap]
                    own = Asker(part, rule)
                    orders.append([heap[spot] for spot in by_putting(own)])
                    for later, earlier, said in own.answers():
                        asker.ahead(heap[later], heap[earlier])
                told = joined(asker, orders[0], orders[1])
                self.assertIs(shows(told, asker.answers()), True)

    def test_spent_and_given_more(self):
        for row, rule in rows_and_rules((12,), (UP, DOWN)):
            for heaps in [dealt(12, seed) for seed in range(3)] + [(range(9), range(9, 12))]:
                left = in_order(row, rule, heaps[0])
                right = in_order(row, rule, heaps[1])
                self.spent_and_widened(row, rule, lambda asker: joined(asker, left, right))


class Whatever(JoinCase):
    def test_each_way_of_answers(self):
        for one, other in ((1, 1), (3, 4), (5, 5), (9, 1), (2, 8), (1, 12)):

            def run(rule):
                left = list(range(one))
                right = list(range(one, one + other))
                asker = Asker([None] * (one + other), rule)
                told = joined(asker, left, right)
                self.kept_to(asker, told, left, right)

            each_way_of_answers(run)

    def test_rules_that_are_no_order(self):
        for row, rule in rows_and_rules((1, 9, 50), wild_rules()):
            left, right = dealt(len(row), 7)
            asker = Asker(row, rule)
            told = joined(asker, left, right[::-1])
            self.kept_to(asker, told, left, right[::-1])

    def test_unlike_answers(self):
        for seed in range(200):
            left, right = dealt(seed, seed)
            asker = Asker([None] * seed, fickle(seed))
            told = joined(asker, left, right)
            self.kept_to(asker, told, left, right)

    def test_sides_stay_each_in_its_own_turn(self):
        for row, rule in rows_and_rules((20,), wild_rules()):
            left, right = dealt(20, 3)
            told = joined(Asker(row, rule), left, right)
            self.assertEqual([place for place in told if place in left], left)
            self.assertEqual([place for place in told if place in right], right)

    def test_told_lists_are_the_askers_own(self):
        for left, right in (([0, 1], []), ([], [0, 1]), ([0], [1])):
            joined(Asker(row_of(1, 2), UP), left, right).append(9)
            self.assertEqual(sorted(left + right), [0, 1])


if __name__ == "__main__":
    unittest.main()
