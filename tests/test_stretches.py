"""Stretches: points 23 and 24, with 2, 5, 8 and 9."""

import itertools
import unittest

import models
from sorthall.askers import Asker
from sorthall.stretches import in_turn, stretch_from, stretches
from support import (
    DOWN, UP, HallCase, each_way_of_answers, one_paper, order_rules, row_of, some_rows, wild_rules,
)


def fewest_parts(many, ahead):
    """The fewest parts, each rising or falling, into which the row can be cut: all cuts are tried."""
    best = [0] + [None] * many
    for beyond in range(1, many + 1):
        for first in range(beyond):
            steps = {ahead[place] for place in range(first + 1, beyond)}
            if len(steps) < 2 and (best[beyond] is None or best[first] + 1 < best[beyond]):
                best[beyond] = best[first] + 1
    return best[many]


class StretchCase(HallCase):
    def stretch(self, row, rule, first, end, wanted, answers):
        asker = Asker(row, rule)
        told = stretch_from(asker, first) if end is None else stretch_from(asker, first, end)
        self.assertIs(type(told), tuple)
        self.assertEqual(told, wanted)
        self.assertEqual([type(part) for part in told], [int, bool])
        self.assertEqual(asker.answers(), answers)


class OneStretch(StretchCase):
    def test_rising(self):
        self.stretch(row_of(1, 2, 3), UP, 0, None, (3, False), [(1, 0, False), (2, 1, False)])
        self.stretch(row_of(1, 2, 3, 0, 4), UP, 0, None, (3, False), [(1, 0, False), (2, 1, False), (3, 2, True)])

    def test_falling(self):
        self.stretch(row_of(3, 2, 1), UP, 0, None, (3, True), [(1, 0, True), (2, 1, True)])
        self.stretch(row_of(3, 2, 1, 4), UP, 0, None, (3, True), [(1, 0, True), (2, 1, True), (3, 2, False)])

    def test_alike_things_rise(self):
        self.stretch(row_of(5, 5, 5), UP, 0, None, (3, False), [(1, 0, False), (2, 1, False)])
        self.stretch(row_of(5, 5, 5), DOWN, 0, None, (3, False), [(1, 0, False), (2, 1, False)])
        self.stretch(row_of(5, 4, 4), UP, 0, None, (2, True), [(1, 0, True), (2, 1, False)])
        self.stretch(row_of(4, 4, 3), UP, 0, None, (2, False), [(1, 0, False), (2, 1, True)])

    def test_first_alone(self):
        self.stretch(row_of(5), UP, 0, None, (1, False), [])
        self.stretch(row_of(5, 4, 3), UP, 2, None, (3, False), [])
        self.stretch(row_of(5, 4, 3), UP, 1, 2, (2, False), [])

    def test_from_the_middle(self):
        row = row_of(9, 1, 2, 3, 2, 1)
        self.stretch(row, UP, 1, None, (4, False), [(2, 1, False), (3, 2, False), (4, 3, True)])
        self.stretch(row, UP, 3, None, (6, True), [(4, 3, True), (5, 4, True)])

    def test_with_an_end(self):
        row = row_of(1, 2, 3, 4, 3, 2)
        self.stretch(row, UP, 0, 2, (2, False), [(1, 0, False)])
        self.stretch(row, UP, 0, 3, (3, False), [(1, 0, False), (2, 1, False)])
        self.stretch(row, UP, 1, 6, (4, False), [(2, 1, False), (3, 2, False), (4, 3, True)])
        self.stretch(row, UP, 3, 5, (5, True), [(4, 3, True)])
        asker = Asker(row, UP)
        self.assertEqual(stretch_from(asker, 3, end=5), (5, True))

    def test_each_first_and_end_of_rows_of_all_kinds(self):
        for many in (1, 2, 5, 9):
            for row, rule in itertools.product(some_rows(many), order_rules() + wild_rules()):
                for first in range(many):
                    for end in [None, *range(first + 1, many + 1)]:
                        asker = Asker(row, rule)
                        told = stretch_from(asker, first, end)
                        stop = many if end is None else end
                        self.as_the_model(asker, told, lambda ahead: models.stretch(ahead, first, stop))

    def test_whatever_is_told(self):
        def run(rule):
            asker = Asker([None] * 7, rule)
            told = stretch_from(asker, 1, 6)
            self.as_the_model(asker, told, lambda ahead: models.stretch(ahead, 1, 6))

        each_way_of_answers(run)

    def test_in_turn_it_is_in_order(self):
        for row, rule in itertools.product(some_rows(12), order_rules()):
            order = one_paper(row, rule)
            for first in range(12):
                places = in_turn(first, *stretch_from(Asker(row, rule), first))
                self.assertEqual(places, [place for place in order if place in places])

    def test_spent_and_given_more(self):
        for row, rule in itertools.product(some_rows(9), (UP, DOWN)):
            self.spent_and_widened(row, rule, lambda asker: stretch_from(asker, 0))
            self.spent_and_widened(row, rule, lambda asker: stretch_from(asker, 3, 8))


class InTurn(StretchCase):
    def test_rising(self):
        self.assertEqual(in_turn(0, 1, False), [0])
        self.assertEqual(in_turn(0, 4, False), [0, 1, 2, 3])
        self.assertEqual(in_turn(5, 8, False), [5, 6, 7])

    def test_falling(self):
        self.assertEqual(in_turn(0, 1, True), [0])
        self.assertEqual(in_turn(0, 4, True), [3, 2, 1, 0])
        self.assertEqual(in_turn(5, 8, True), [7, 6, 5])

    def test_whole_numbers(self):
        self.whole_list(in_turn(0, 300, False))
        self.whole_list(in_turn(0, 300, True))


class Stretches(StretchCase):
    def found(self, row, rule, wanted):
        asker = Asker(row, rule)
        told = stretches(asker)
        self.assertEqual(told, wanted)
        self.assertIs(type(told), list)
        for part in told:
            self.assertIs(type(part), tuple)
            self.assertEqual([type(value) for value in part], [int, int, bool])
        self.each_two_neighbours(asker)

    def each_two_neighbours(self, asker):
        pairs = [(later, earlier) for later, earlier, said in asker.answers()]
        self.assertEqual(pairs, [(place, place - 1) for place in range(1, asker.many())])

    def test_examples(self):
        self.found([], UP, [])
        self.found(row_of(4), UP, [(0, 1, False)])
        self.found(row_of(4, 5), UP, [(0, 2, False)])
        self.found(row_of(5, 4), UP, [(0, 2, True)])
        self.found(row_of(5, 5), UP, [(0, 2, False)])
        self.found(row_of(1, 2, 3, 2, 1, 0, 5), UP, [(0, 3, False), (3, 6, True), (6, 7, False)])
        self.found(row_of(3, 1, 1, 2, 2, 0), UP, [(0, 2, True), (2, 5, False), (5, 6, False)])
        self.found(row_of(3, 1, 1, 2, 2, 0), DOWN, [(0, 3, False), (3, 6, False)])
        self.found(row_of(2, 1, 2, 1, 2), UP, [(0, 2, True), (2, 4, True), (4, 5, False)])

    def test_rows_of_all_kinds(self):
        for many in (0, 1, 2, 3, 10, 40):
            for row, rule in itertools.product(some_rows(many), order_rules() + wild_rules()):
                asker = Asker(row, rule)
                told = stretches(asker)
                self.as_the_model(asker, told, lambda ahead: models.stretches(ahead, many))
                self.each_two_neighbours(asker)

    def test_the_fewest_parts(self):
        for many in (1, 2, 3, 8, 15):
            for row, rule in itertools.product(some_rows(many), order_rules()):
                asker = Asker(row, rule)
                told = stretches(asker)
                ahead = {later: said for later, earlier, said in asker.answers()}
                self.assertEqual(len(told), fewest_parts(many, ahead))

    def test_whatever_is_told(self):
        def run(rule):
            asker = Asker([None] * 8, rule)
            told = stretches(asker)
            self.as_the_model(asker, told, lambda ahead: models.stretches(ahead, 8))
            self.each_two_neighbours(asker)
            self.assertEqual(len(told), fewest_parts(8, {later: said for later, earlier, said in asker.answers()}))

        each_way_of_answers(run)

    def test_spent_and_given_more(self):
        for row, rule in itertools.product(some_rows(9), (UP, DOWN)):
            self.spent_and_widened(row, rule, stretches)

    def test_told_lists_stay(self):
        asker = Asker(row_of(1, 2, 0), UP)
        told = stretches(asker)
        kept = list(told)
        stretches(asker).clear()
        self.assertEqual(told, kept)


if __name__ == "__main__":
    unittest.main()
