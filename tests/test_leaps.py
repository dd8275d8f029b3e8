"""Leaps: point 27, with 2, 5, 8 and 9."""

import unittest

import bounds
import models
from sorthall.askers import Asker
from sorthall.leaps import leap
from support import UP, HallCase, each_way_of_answers, one_paper, order_rules, row_of, rows_and_rules, wild_rules


class Leap(HallCase):
    def leaps(self, many, first, found, answers=None):
        """Over the order 0, 1, .. of many places, first + found of which stand ahead of the last place of the row."""
        asker = Asker(row_of(*range(0, 2 * many, 2), 2 * (first + found) - 1), UP)
        order = list(range(many))
        told = leap(asker, order, first, many)
        self.whole(told, found)
        self.assertEqual(order, list(range(many)))
        self.as_the_model(asker, told, lambda ahead: models.leap(ahead, order, first, many))
        self.assertLessEqual(asker.asked, bounds.leap(many - first, found))
        if answers is not None:
            self.assertEqual([earlier for later, earlier, said in asker.answers()], answers)

    def test_from_nought(self):
        self.leaps(20, 0, 0, [0])
        self.leaps(20, 0, 1, [0, 1])
        self.leaps(20, 0, 2, [0, 1, 3, 2])
        self.leaps(20, 0, 3, [0, 1, 3, 2])
        self.leaps(20, 0, 4, [0, 1, 3, 7, 5, 4])
        self.leaps(20, 0, 7, [0, 1, 3, 7, 5, 6])
        self.leaps(20, 0, 8, [0, 1, 3, 7, 15, 11, 9, 8])
        self.leaps(20, 0, 13, [0, 1, 3, 7, 15, 11, 13, 12])

    def test_near_the_orders_end(self):
        self.leaps(20, 0, 20, [0, 1, 3, 7, 15, 17, 18, 19])
        self.leaps(20, 0, 17, [0, 1, 3, 7, 15, 17, 16])
        self.leaps(20, 0, 16, [0, 1, 3, 7, 15, 17, 16])
        self.leaps(3, 0, 3, [0, 1, 2])
        self.leaps(3, 0, 2, [0, 1, 2])
        self.leaps(4, 0, 4, [0, 1, 3])
        self.leaps(4, 0, 3, [0, 1, 3, 2])
        self.leaps(2, 0, 2, [0, 1])
        self.leaps(1, 0, 1, [0])

    def test_from_the_middle(self):
        self.leaps(20, 5, 0, [5])
        self.leaps(20, 5, 3, [5, 6, 8, 7])
        self.leaps(20, 5, 15, [5, 6, 8, 12, 16, 18, 19])
        self.leaps(20, 6, 9, [6, 7, 9, 13, 16, 14, 15])
        self.leaps(20, 19, 1, [19])
        self.leaps(20, 19, 0, [19])

    def test_from_the_orders_length_on(self):
        for many in (0, 1, 5):
            self.leaps(many, many, 0, [])
            self.whole(leap(Asker(row_of(*range(many + 1)), UP, 0), list(range(many)), many, many), 0)

    def test_each_first_and_number(self):
        for many in range(36):
            for first in range(many + 1):
                for found in range(many - first + 1):
                    self.leaps(many, first, found)

    def test_long_orders(self):
        for many, first in ((299, 0), (299, 1), (256, 0), (255, 0), (257, 1)):
            for found in (0, 1, 100, 127, 128, 129, 254, many - first):
                self.leaps(many, first, found)

    def test_orders_of_all_kinds(self):
        for row, rule in rows_and_rules((2, 9), order_rules()):
            paper = one_paper(row, rule)
            for place in paper:
                order = [other for other in paper if other != place]
                for first in range(len(order) + 1):
                    asker = Asker(row, rule)
                    told = leap(asker, order, first, place)
                    self.whole(told, max(0, paper.index(place) - first))
                    self.as_the_model(asker, told, lambda ahead: models.leap(ahead, order, first, place))

    def test_whatever_is_told(self):
        for many, first in ((1, 0), (6, 0), (12, 3), (9, 0), (18, 1)):
            numbers = set()

            def run(rule):
                asker = Asker([None] * (many + 1), rule)
                told = leap(asker, list(range(many)), first, many)
                self.as_the_model(asker, told, lambda ahead: models.leap(ahead, list(range(many)), first, many))
                self.assertLessEqual(asker.asked, bounds.leap(many - first, told))
                numbers.add(told)

            each_way_of_answers(run)
            self.assertEqual(numbers, set(range(many - first + 1)))

    def test_rules_that_are_no_order(self):
        for row, rule in rows_and_rules((12,), wild_rules()):
            asker = Asker(row, rule)
            told = leap(asker, [3, 1, 7, 0, 9, 4, 11, 10], 2, 5)
            self.assertIn(told, range(7))
            self.assertLessEqual(asker.asked, bounds.leap(6, told))

    def test_spent_and_given_more(self):
        row = row_of(*range(0, 60, 2), 47)
        self.spent_and_widened(row, UP, lambda asker: leap(asker, list(range(30)), 1, 30))


if __name__ == "__main__":
    unittest.main()
