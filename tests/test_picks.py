"""Picks: points 43 and 44, with 2, 5, 6, 8 and 9."""

import itertools
import unittest

import models
from sorthall.askers import Asker
from sorthall.errors import HallError, NoPlace
from sorthall.picks import so_manieth
from support import (
    DOWN, UP, HallCase, each_way_of_answers, fickle, one_paper, order_rules, row_of, rows_and_rules, wild_rules,
)


def reached(start, answers, forward):
    """The places to which a chain of answers leads from start, each ahead of the next (or the other way round)."""
    steps = [(later, earlier) if said == forward else (earlier, later) for later, earlier, said in answers]
    found = {start}
    grown = True
    while grown:
        more = {behind for ahead, behind in steps if ahead in found} - found
        found |= more
        grown = bool(more)
    return found - {start}


class PickCase(HallCase):
    def as_told(self, row, rule, many):
        things = len(row)
        asker = Asker(row, rule)
        told = so_manieth(asker, many)
        self.assertIs(type(told), tuple)
        ahead, place, behind = told
        self.whole_list([place])
        self.whole_list(ahead)
        self.whole_list(behind)
        self.each_once(ahead + [place] + behind, range(things))
        self.assertEqual((ahead, behind), (sorted(ahead), sorted(behind)))
        self.assertEqual(len(ahead), many)
        self.as_the_model(asker, told, lambda ahead: models.so_manieth(ahead, things, many))
        self.assertLessEqual(asker.asked, things - 1 + min(many, things - 1 - many) * (things - 1).bit_length())
        return asker, told


class SoManieth(PickCase):
    def test_what_is_asked(self):
        row = row_of(50, 20, 30, 10, 40)
        making = [(1, 0, True), (2, 1, False), (4, 3, False), (3, 1, True)]
        for many, wanted, answers in (
            (0, ([], 3, [0, 1, 2, 4]), making),
            (1, ([3], 1, [0, 2, 4]), making + [(4, 1, False)]),
            (2, ([1, 3], 2, [0, 4]), making + [(4, 1, False), (2, 0, True), (4, 2, False)]),
            (3, ([1, 2, 3], 4, [0]), [(1, 0, True), (2, 0, True), (4, 3, False), (4, 0, True), (2, 1, False), (4, 2, False)]),
            (4, ([1, 2, 3, 4], 0, []), [(1, 0, True), (2, 0, True), (4, 3, False), (4, 0, True)]),
        ):
            asker = Asker(row, UP)
            self.assertEqual(so_manieth(asker, many), wanted)
            self.assertEqual(asker.answers(), answers)

    def test_one_thing(self):
        self.assertEqual(so_manieth(Asker(row_of(7), UP, 0), 0), ([], 0, []))

    def test_each_number_of_rows_of_all_kinds(self):
        for row, rule in rows_and_rules((1, 2, 3, 8, 17), order_rules()):
            paper = one_paper(row, rule)
            for many in range(len(row)):
                asker, told = self.as_told(row, rule, many)
                self.assertEqual(told, (sorted(paper[:many]), paper[many], sorted(paper[many + 1:])))
                self.assertEqual(reached(told[1], asker.answers(), True), set(told[2]))
                self.assertEqual(reached(told[1], asker.answers(), False), set(told[0]))

    def test_three_hundred(self):
        row = row_of(*[place * 89 % 300 for place in range(300)])
        paper = one_paper(row, UP)
        for many in (0, 1, 149, 150, 298, 299):
            asker, told = self.as_told(row, UP, many)
            self.assertEqual(told, (sorted(paper[:many]), paper[many], sorted(paper[many + 1:])))

    def test_all_together_they_tell_the_paper(self):
        for row, rule in rows_and_rules((5, 12), order_rules()):
            told = [so_manieth(Asker(row, rule), many)[1] for many in range(len(row))]
            self.assertEqual(told, one_paper(row, rule))

    def test_whatever_is_told(self):
        for row, rule in rows_and_rules((1, 2, 9, 20), wild_rules()):
            for many in range(len(row)):
                self.as_told(row, rule, many)
        for many in range(5):
            each_way_of_answers(lambda rule: self.as_told([None] * 5, rule, many))
        for seed in range(1, 60):
            self.as_told([None] * seed, fickle(seed), seed * 7 % 11 % seed)
            self.as_told([None] * seed, fickle(seed), seed // 2)

    def test_spent_and_given_more(self):
        for row, rule in rows_and_rules((7,), (UP, DOWN, wild_rules()[1])):
            for many in range(7):
                self.spent_and_widened(row, rule, lambda asker: so_manieth(asker, many))


class Refused(PickCase):
    def test_every_other_number_ahead_of_any_ask(self):
        for things, most in itertools.product((0, 1, 2, 9), (None, 0, 5)):
            for many in (-1, -2, -things, -things - 1, things, things + 1, 300, 10 ** 60, -10 ** 60):
                if 0 <= many < things:
                    continue
                asker = Asker(row_of(*range(things)), UP, most)
                with self.assertRaises(NoPlace) as taken:
                    so_manieth(asker, many)
                self.assertIsInstance(taken.exception, HallError)
                self.whole(asker.asked, 0)


if __name__ == "__main__":
    unittest.main()
