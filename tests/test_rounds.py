"""Rounds: points 39 and 40, with 2, 5, 6, 8 and 9."""

import itertools
import unittest

import bounds
import models
from sorthall.askers import Asker
from sorthall.papers import shows
from sorthall.piles import by_pile
from sorthall.rounds import by_pieces, in_rounds
from support import (
    DOWN, UP, HallCase, each_way_of_answers, fickle, in_order, one_paper, order_rules, row_of, rows_and_rules, wild_rules,
)
from test_pours import dealt


def numbers_behind(pieces, mouths):
    told = []
    while pieces > 1:
        pieces = (pieces + mouths - 1) // mouths
        told.append(pieces)
    return told


class RoundCase(HallCase):
    def as_told(self, row, rule, pieces, mouths):
        kept = [list(piece) for piece in pieces]
        asker = Asker(row, rule)
        told = in_rounds(asker, pieces, mouths)
        self.assertIs(type(told), tuple)
        self.assertEqual(len(told), 2)
        self.whole_list(told[1])
        self.each_once(told[0], sum(pieces, []))
        self.assertEqual(told[1], numbers_behind(len(pieces), mouths))
        self.assertEqual(pieces, kept)
        self.as_the_model(asker, told, lambda ahead: models.rounds(ahead, pieces, mouths))
        self.bound(asker, [len(piece) for piece in pieces], mouths)
        return told[0]

    def bound(self, asker, lengths, mouths, before=0):
        """The asks of all pours, each as point 38 bounds it."""
        most = 0
        while len(lengths) > 1:
            heaps = [lengths[first:first + mouths] for first in range(0, len(lengths), mouths)]
            most += sum(bounds.poured([[0] * length for length in heap]) for heap in heaps)
            lengths = [sum(heap) for heap in heaps]
        self.assertLessEqual(asker.asked - before, most)


class InRounds(RoundCase):
    def test_no_piece_and_one(self):
        for mouths in (2, 3, 7):
            self.assertEqual(in_rounds(Asker(row_of(1), UP, 0), [], mouths), ([], []))
            self.assertEqual(in_rounds(Asker(row_of(1), UP, 0), [[]], mouths), ([], []))
            self.assertEqual(in_rounds(Asker(row_of(2, 3, 1), UP, 0), [[2, 0, 1]], mouths), ([2, 0, 1], []))
        self.assertEqual(in_rounds(Asker([], UP, 0), []), ([], []))

    def test_one_piece_is_told_as_a_copy(self):
        piece = [1, 0]
        in_rounds(Asker(row_of(2, 1), UP), [piece])[0].append(9)
        self.assertEqual(piece, [1, 0])

    def test_empty_pieces(self):
        self.assertEqual(in_rounds(Asker([], UP, 0), [[], [], []]), ([], [2, 1]))
        self.assertEqual(in_rounds(Asker(row_of(1, 2), UP, 0), [[], [0, 1], [], []], 3), ([0, 1], [2, 1]))

    def test_two_mouths(self):
        asker = Asker(row_of(5, 4, 3, 2, 1), UP)
        self.assertEqual(in_rounds(asker, [[0], [1], [2], [3], [4]]), ([4, 3, 2, 1, 0], [3, 2, 1]))
        first = [(1, 0, True), (3, 2, True)]
        second = [(3, 1, True), (2, 1, True)]
        third = [(4, 3, True)]
        self.assertEqual(asker.answers(), first + second + third)

    def test_three_mouths(self):
        asker = Asker(row_of(5, 4, 3, 2), UP)
        self.assertEqual(in_rounds(asker, [[0], [1], [2], [3]], 3), ([3, 2, 1, 0], [2, 1]))
        self.assertEqual(asker.answers(), [(1, 0, True), (2, 1, True), (3, 2, True)])
        asker = Asker(row_of(5, 4, 3, 2), UP)
        self.assertEqual(in_rounds(asker, [[0], [1], [2], [3]], mouths=3)[1], [2, 1])

    def test_numbers_of_pieces(self):
        for many, mouths in itertools.product(range(20), (2, 3, 4, 5, 300)):
            row = row_of(*range(many))
            told = in_rounds(Asker(row, DOWN), [[place] for place in range(many)], mouths)
            self.assertEqual(told[1], numbers_behind(many, mouths))
            self.assertEqual(told[0], list(range(many))[::-1])

    def test_rows_of_all_kinds(self):
        for row, rule in rows_and_rules((1, 2, 9, 24), order_rules()):
            for heaps, mouths in itertools.product((1, 2, 5, 9), (2, 3, 4, 300)):
                pieces = [in_order(row, rule, heap) for heap in dealt(len(row), heaps, heaps)]
                self.assertEqual(self.as_told(row, rule, pieces, mouths), one_paper(row, rule))

    def test_answers_show_the_paper(self):
        for row, rule in rows_and_rules((2, 9, 20), order_rules()):
            for wide, mouths in itertools.product((1, 2, 4, 7), (2, 3)):
                asker = Asker(row, rule)
                ends = [*range(0, len(row), wide), len(row)]
                told = in_rounds(asker, [by_pile(asker, 1, part) for part in zip(ends, ends[1:])], mouths)
                self.assertEqual(told[0], one_paper(row, rule))
                self.assertIs(shows(told[0], asker.answers()), True)

    def test_whatever_is_told(self):
        for row, rule in rows_and_rules((1, 9, 30), wild_rules()):
            for heaps, mouths in itertools.product((1, 3, 8), (2, 3)):
                self.as_told(row, rule, dealt(len(row), heaps, 4), mouths)
        for mouths in (2, 3):
            each_way_of_answers(lambda rule: self.as_told([None] * 5, rule, [[0], [1], [2], [3], [4]], mouths))

    def test_spent_and_given_more(self):
        for row, rule in rows_and_rules((9,), (UP, DOWN)):
            for heaps, mouths in itertools.product((2, 5), (2, 3)):
                pieces = [in_order(row, rule, heap) for heap in dealt(9, heaps, heaps)]
                self.spent_and_widened(row, rule, lambda asker: in_rounds(asker, pieces, mouths))


class ByPieces(RoundCase):
    def as_pieces(self, row, rule, wide, mouths, least):
        asker = Asker(row, rule)
        told = by_pieces(asker, wide, mouths, least)
        self.each_once(told, range(len(row)))
        self.as_the_model(asker, told, lambda ahead: models.pieces_way(ahead, len(row), wide, mouths, least))
        return asker, told

    def test_no_thing(self):
        self.assertEqual(by_pieces(Asker([], UP, 0), 3), [])

    def test_what_is_asked(self):
        asker = Asker(row_of(4, 3, 1, 2, 0), UP)
        self.assertEqual(by_pieces(asker, 2), [4, 2, 3, 1, 0])
        piles = [(1, 0, True), (3, 2, False)]
        first = [(2, 1, True), (3, 1, True)]
        second = [(4, 2, True)]
        self.assertEqual(asker.answers(), piles + first + second)

    def test_the_one_paper(self):
        for row, rule in rows_and_rules((1, 2, 9, 30), order_rules()):
            for wide, mouths, least in itertools.product((1, 2, 3, 8, 300), (2, 3, 300), (1, 4, 300)):
                asker, told = self.as_pieces(row, rule, wide, mouths, least)
                self.assertEqual(told, one_paper(row, rule))
                self.assertIs(shows(told, asker.answers()), True)

    def test_defaults_and_names(self):
        row = [(place * 7 % 11,) for place in range(11)]
        one = Asker(row, UP)
        other = Asker(row, UP)
        self.assertEqual(by_pieces(one, 3), by_pieces(other, wide=3, mouths=2, least=1))
        self.assertEqual(one.answers(), other.answers())

    def test_wide_enough_it_is_one_pile(self):
        for row, rule in rows_and_rules((9,), order_rules()):
            for wide in (9, 10, 300):
                one = Asker(row, rule)
                other = Asker(row, rule)
                self.assertEqual(by_pieces(one, wide, 2, 3), by_pile(other, 3))
                self.assertEqual(one.answers(), other.answers())

    def test_bound(self):
        """The asks of the piles, and within their bounds those of the pours."""
        for row, rule in rows_and_rules((9, 30), order_rules() + wild_rules()[:5]):
            for wide, mouths in itertools.product((1, 4, 7), (2, 3)):
                piles = Asker(row, rule)
                lengths = []
                for first in range(0, len(row), wide):
                    lengths.append(len(by_pile(piles, 1, (first, min(len(row), first + wide)))))
                asker, told = self.as_pieces(row, rule, wide, mouths, 1)
                self.assertEqual(asker.answers()[:piles.asked], piles.answers())
                self.bound(asker, lengths, mouths, piles.asked)

    def test_whatever_is_told(self):
        for row, rule in rows_and_rules((1, 9, 30), wild_rules()):
            for wide, mouths, least in itertools.product((1, 4), (2, 3), (1, 3)):
                self.as_pieces(row, rule, wide, mouths, least)
        each_way_of_answers(lambda rule: self.as_pieces([None] * 5, rule, 2, 2, 1))
        for seed in range(60):
            self.as_pieces([None] * seed, fickle(seed), 1 + seed % 5, 2 + seed % 3, 1 + seed % 4)

    def test_spent_and_given_more(self):
        for row, rule in rows_and_rules((9,), (UP, DOWN, wild_rules()[1])):
            for wide, mouths, least in ((2, 2, 1), (4, 3, 3)):
                self.spent_and_widened(row, rule, lambda asker: by_pieces(asker, wide, mouths, least))


if __name__ == "__main__":
    unittest.main()
