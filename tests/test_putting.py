"""Putting in: points 21, 22 and 25, with 2, 5, 6, 8 and 9."""

import itertools
import unittest

import bounds
import models
from sorthall.askers import Asker
from sorthall.papers import shows
from sorthall.putting import by_putting, by_walking, filled, spot_of
from sorthall.rules import AskedRule
from support import (
    DOWN, UP, HallCase, each_way_of_answers, in_order, one_paper, order_rules, row_of,
    rows_and_rules, wild_rules,
)


class Spot(HallCase):
    def test_what_is_asked(self):
        row = row_of(10, 20, 30, 40, 50, 60, 70, 35)
        asker = Asker(row, UP)
        self.whole(spot_of(asker, [0, 1, 2, 3, 4, 5, 6], 7), 3)
        self.assertEqual(asker.answers(), [(7, 3, True), (7, 1, False), (7, 2, False)])
        asker = Asker(row, UP)
        self.whole(spot_of(asker, [0, 1, 2, 3], 7), 3)
        self.assertEqual(asker.answers(), [(7, 2, False), (7, 3, True)])

    def test_ahead_of_all_and_behind_all(self):
        row = row_of(10, 20, 30, 40, 0, 90)
        asker = Asker(row, UP)
        self.whole(spot_of(asker, [0, 1, 2, 3], 4), 0)
        self.assertEqual(asker.answers(), [(4, 2, True), (4, 1, True), (4, 0, True)])
        asker = Asker(row, UP)
        self.whole(spot_of(asker, [0, 1, 2, 3], 5), 4)
        self.assertEqual(asker.answers(), [(5, 2, False), (5, 3, False)])

    def test_no_order_no_ask(self):
        asker = Asker(row_of(1, 2), UP, 0)
        self.whole(spot_of(asker, [], 1), 0)
        self.assertEqual(asker.answers(), [])

    def test_alike_things_keep_their_turn(self):
        row = row_of(5, 5, 5, 5, 5)
        for place in range(5):
            order = [other for other in range(5) if other != place]
            self.whole(spot_of(Asker(row, UP), order, place), place)

    def test_a_place_less_than_those_of_the_order(self):
        row = row_of(3, 1, 2, 3, 4)
        self.whole(spot_of(Asker(row, UP), [1, 2, 3, 4], 0), 2)

    def test_each_place_among_the_others(self):
        for row, rule in rows_and_rules((1, 2, 5, 9), order_rules()):
            paper = one_paper(row, rule)
            for place in paper:
                order = [other for other in paper if other != place]
                kept = list(order)
                asker = Asker(row, rule)
                told = spot_of(asker, order, place)
                self.whole(told, paper.index(place))
                self.as_the_model(asker, told, lambda ahead: models.spot(ahead, order, place))
                self.assertEqual(order, kept)

    def test_bound(self):
        for many in range(34):
            asked = set()
            for place in range(many + 1):
                row = row_of(*range(0, 2 * many, 2), 2 * place - 1)
                asker = Asker(row, UP)
                self.whole(spot_of(asker, list(range(many)), many), place)
                asked.add(asker.asked)
            self.assertEqual(max(asked), many.bit_length())

    def test_whatever_is_told(self):
        for many in range(9):
            told = set()

            def run(rule):
                asker = Asker([None] * (many + 1), rule)
                spot = spot_of(asker, list(range(many)), many)
                self.as_the_model(asker, spot, lambda ahead: models.spot(ahead, list(range(many)), many))
                self.assertLessEqual(asker.asked, many.bit_length())
                told.add(spot)

            each_way_of_answers(run)
            self.assertEqual(told, set(range(many + 1)))

    def test_spent_and_given_more(self):
        row = row_of(*range(0, 20, 2), 7)
        self.spent_and_widened(row, UP, lambda asker: spot_of(asker, list(range(10)), 10))


class ByPutting(HallCase):
    def test_what_is_asked(self):
        asker = Asker(row_of(3, 1, 2, 1), UP)
        self.assertEqual(by_putting(asker), [1, 3, 2, 0])
        wanted = [(1, 0, True), (2, 0, True), (2, 1, False), (3, 2, True), (3, 1, False)]
        self.assertEqual(asker.answers(), wanted)

    def test_none_and_one(self):
        for row in ([], [(1,)]):
            asker = Asker(row, UP, 0)
            self.assertEqual(by_putting(asker), list(range(len(row))))

    def test_the_one_paper(self):
        for row, rule in rows_and_rules((0, 1, 2, 3, 8, 21), order_rules()):
            asker = Asker(row, rule)
            told = by_putting(asker)
            self.whole_list(told)
            self.assertEqual(told, one_paper(row, rule))
            self.assertIs(shows(told, asker.answers()), True)
            self.assertLessEqual(asker.asked, bounds.putting(len(row)))
            self.as_the_model(asker, told, lambda ahead: models.putting(ahead, len(row)))

    def test_each_short_row(self):
        for many in range(6):
            for numbers in itertools.product(range(3), repeat=many):
                row = row_of(*numbers)
                for rule in (UP, DOWN):
                    asker = Asker(row, rule)
                    told = by_putting(asker)
                    self.assertEqual(told, one_paper(row, rule))
                    self.assertIs(shows(told, asker.answers()), True)

    def test_three_hundred(self):
        row = row_of(*[place * 89 % 300 for place in range(300)])
        asker = Asker(row, UP)
        self.assertEqual(by_putting(asker), one_paper(row, UP))
        self.assertLessEqual(asker.asked, bounds.putting(300))

    def test_whatever_is_told(self):
        for row, rule in rows_and_rules((1, 2, 7, 30), wild_rules()):
            asker = Asker(row, rule)
            told = by_putting(asker)
            self.each_once(told, range(len(row)))
            self.assertLessEqual(asker.asked, bounds.putting(len(row)))
            self.as_the_model(asker, told, lambda ahead: models.putting(ahead, len(row)))

    def test_each_way_of_answers(self):
        def run(rule):
            asker = Asker([None] * 6, rule)
            told = by_putting(asker)
            self.each_once(told, range(6))
            self.assertLessEqual(asker.asked, bounds.putting(6))

        each_way_of_answers(run)

    def test_spent_and_given_more(self):
        for row, rule in rows_and_rules((2, 9), order_rules() + wild_rules()[:5]):
            self.spent_and_widened(row, rule, by_putting)

    def test_called_again_it_begins_anew(self):
        asker = Asker(row_of(3, 1, 2), UP)
        first = by_putting(asker)
        answers = asker.answers()
        first.append(9)
        self.assertEqual(by_putting(asker), [1, 2, 0])
        self.assertEqual(asker.answers(), answers + answers)


class ByWalking(HallCase):
    def test_what_is_asked(self):
        asker = Asker(row_of(3, 1, 2, 1), UP)
        self.assertEqual(by_walking(asker), [1, 3, 2, 0])
        wanted = [(1, 0, True), (2, 0, True), (2, 1, False), (3, 0, True), (3, 2, True), (3, 1, False)]
        self.assertEqual(asker.answers(), wanted)

    def test_none_and_one(self):
        for row in ([], [(1,)]):
            asker = Asker(row, UP, 0)
            self.assertEqual(by_walking(asker), list(range(len(row))))

    def walked(self, row, asker, told):
        self.as_the_model(asker, told, lambda ahead: models.walking(ahead, len(row)))
        others = [later for later, earlier, said in asker.answers() if not said]
        self.assertEqual(len(others), len(set(others)))
        self.assertLessEqual(len(others), max(0, len(row) - 1))

    def test_the_one_paper(self):
        for row, rule in rows_and_rules((0, 1, 2, 3, 8, 21), order_rules()):
            asker = Asker(row, rule)
            told = by_walking(asker)
            self.whole_list(told)
            self.assertEqual(told, one_paper(row, rule))
            self.assertIs(shows(told, asker.answers()), True)
            self.walked(row, asker, told)
            ahead = [1 for p, q in itertools.combinations(told, 2) if p > q]
            self.assertEqual(len([1 for later, earlier, said in asker.answers() if said]), len(ahead))

    def test_each_short_row(self):
        for many in range(6):
            for numbers in itertools.product(range(3), repeat=many):
                row = row_of(*numbers)
                for rule in (UP, DOWN):
                    asker = Asker(row, rule)
                    told = by_walking(asker)
                    self.assertEqual(told, one_paper(row, rule))
                    self.assertIs(shows(told, asker.answers()), True)

    def test_asks_of_rows_in_order_and_the_other_way_round(self):
        for many in (1, 2, 10, 50):
            asker = Asker(row_of(*range(many)), UP)
            by_walking(asker)
            self.whole(asker.asked, many - 1)
            asker = Asker(row_of(*range(many)), DOWN)
            by_walking(asker)
            self.whole(asker.asked, many * (many - 1) // 2)

    def test_whatever_is_told(self):
        for row, rule in rows_and_rules((1, 2, 7, 30), wild_rules()):
            asker = Asker(row, rule)
            told = by_walking(asker)
            self.each_once(told, range(len(row)))
            self.walked(row, asker, told)

    def test_each_way_of_answers(self):
        def run(rule):
            asker = Asker([None] * 6, rule)
            told = by_walking(asker)
            self.each_once(told, range(6))
            self.walked([None] * 6, asker, told)

        each_way_of_answers(run)

    def test_spent_and_given_more(self):
        for row, rule in rows_and_rules((2, 7), order_rules() + wild_rules()[:5]):
            self.spent_and_widened(row, rule, by_walking)


class Filled(HallCase):
    def fills(self, row, rule, first, least, end, wanted, answers):
        asker = Asker(row, rule)
        told = filled(asker, first, least) if end is None else filled(asker, first, least, end)
        self.assertIs(type(told), tuple)
        self.whole(told[0], wanted[0])
        self.whole_list(told[1])
        self.assertEqual(told, wanted)
        self.assertEqual(asker.answers(), answers)

    def test_a_stretch_that_is_long_enough(self):
        row = row_of(1, 2, 3, 0, 9)
        own = [(1, 0, False), (2, 1, False), (3, 2, True)]
        for least in (1, 2, 3):
            self.fills(row, UP, 0, least, None, (3, [0, 1, 2]), own)

    def test_places_put_in(self):
        row = row_of(1, 2, 3, 0, 9)
        own = [(1, 0, False), (2, 1, False), (3, 2, True)]
        self.fills(row, UP, 0, 4, None, (3, [3, 0, 1, 2]), own + [(3, 1, True), (3, 0, True)])
        whole = own + [(3, 1, True), (3, 0, True), (4, 1, False), (4, 2, False)]
        self.fills(row, UP, 0, 5, None, (3, [3, 0, 1, 2, 4]), whole)
        self.fills(row, UP, 0, 300, None, (3, [3, 0, 1, 2, 4]), whole)

    def test_an_end(self):
        row = row_of(1, 2, 3, 0, 9)
        self.fills(row, UP, 0, 5, 3, (3, [0, 1, 2]), [(1, 0, False), (2, 1, False)])
        own = [(1, 0, False), (2, 1, False), (3, 2, True)]
        self.fills(row, UP, 0, 5, 4, (3, [3, 0, 1, 2]), own + [(3, 1, True), (3, 0, True)])
        self.fills(row, UP, 2, 5, 3, (3, [2]), [])

    def test_a_falling_stretch_from_the_middle(self):
        row = row_of(0, 5, 3, 4, 1)
        own = [(2, 1, True), (3, 2, False)]
        self.fills(row, UP, 1, 2, None, (3, [2, 1]), own)
        self.fills(row, UP, 1, 3, None, (3, [2, 3, 1]), own + [(3, 1, True), (3, 2, False)])

    def test_all_firsts_leasts_and_ends(self):
        for row, rule in rows_and_rules((1, 2, 6), order_rules() + wild_rules()):
            many = len(row)
            for first in range(many):
                for least, end in itertools.product(range(1, many + 2), [None, *range(first + 1, many + 1)]):
                    asker = Asker(row, rule)
                    told = filled(asker, first, least, end)
                    stop = many if end is None else end
                    self.as_the_model(asker, told, lambda ahead: models.filled(ahead, first, least, stop))

    def test_in_order_and_within_its_bound(self):
        for row, rule in rows_and_rules((20,), order_rules()):
            for first, least in itertools.product((0, 1, 7, 19), (1, 4, 16, 300)):
                asker = Asker(row, rule)
                found, order = filled(asker, first, least)
                self.assertEqual(order, in_order(row, rule, range(first, first + len(order))))
                self.assertEqual(len(order), max(found - first, min(least, 20 - first)))
                own = found - first - 1 + (found < 20)
                put = sum(number.bit_length() for number in range(found - first, len(order)))
                self.assertLessEqual(asker.asked, own + put)

    def test_whatever_is_told(self):
        def run(rule):
            asker = Asker([None] * 6, rule)
            found, order = filled(asker, 1, 4)
            self.each_once(order, range(1, max(found, 5)))
            self.as_the_model(asker, (found, order), lambda ahead: models.filled(ahead, 1, 4, 6))

        each_way_of_answers(run)

    def test_spent_and_given_more(self):
        for row, rule in rows_and_rules((9,), (UP, DOWN)):
            self.spent_and_widened(row, rule, lambda asker: filled(asker, 0, 7))
            self.spent_and_widened(row, rule, lambda asker: filled(asker, 2, 9, 8))


class WhatIsLookedAt(HallCase):
    def test_things_of_any_kind_are_handed_to_the_rule_alone(self):
        row = [{"key": 2}, {"key": 1}, {"key": 2}, {"key": 0}]
        rule = AskedRule(lambda x, y: x["key"] < y["key"])
        for way in (by_putting, by_walking):
            self.assertEqual(way(Asker(row, rule)), [3, 1, 0, 2])
        self.assertEqual(filled(Asker(row, rule), 0, 4), (2, [3, 1, 0, 2]))
        self.assertEqual(row, [{"key": 2}, {"key": 1}, {"key": 2}, {"key": 0}])


if __name__ == "__main__":
    unittest.main()
