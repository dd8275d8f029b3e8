"""Cuts: points 41 and 42, with 2, 5, 6 and 8."""

import itertools
import unittest

import bounds
import models
from sorthall.askers import Asker
from sorthall.cuts import cut_of_two, joined_apart
from sorthall.joins import joined
from sorthall.papers import shows
from sorthall.piles import by_pile
from support import DOWN, UP, HallCase, in_order, one_paper, order_rules, row_of, rows_and_rules
from test_joins import dealt


def deals(row, rule):
    """Left and right of several dealings of the row, each in order."""
    many = len(row)
    heaps = [dealt(many, seed) for seed in range(2)]
    heaps += [([], list(range(many))), (list(range(many)), []), (list(range(many // 3)), list(range(many // 3, many)))]
    heaps += [(list(range(many // 3, many)), list(range(many // 3)))]
    return [(in_order(row, rule, left), in_order(row, rule, right)) for left, right in heaps]


class CutOfTwo(HallCase):
    def test_what_is_asked(self):
        row = row_of(1, 3, 5, 7, 2, 4, 6, 8)
        left = [0, 1, 2, 3]
        right = [4, 5, 6, 7]
        for many, wanted, answers in (
            (0, 0, []),
            (1, 1, [(4, 0, False)]),
            (2, 1, [(4, 1, True), (5, 0, False)]),
            (3, 2, [(5, 1, False), (4, 2, True)]),
            (4, 2, [(5, 2, True), (6, 1, False)]),
            (7, 4, [(7, 3, False)]),
            (8, 4, []),
        ):
            asker = Asker(row, UP)
            self.whole(cut_of_two(asker, left, right, many), wanted)
            self.assertEqual(asker.answers(), answers)

    def test_every_number(self):
        for row, rule in rows_and_rules((0, 1, 2, 5, 12), order_rules()):
            paper = one_paper(row, rule)
            for left, right in deals(row, rule):
                kept = (list(left), list(right))
                for many in range(len(row) + 1):
                    asker = Asker(row, rule)
                    told = cut_of_two(asker, left, right, many)
                    self.whole(told, len([place for place in paper[:many] if place in left]))
                    self.as_the_model(asker, told, lambda ahead: models.cut(ahead, left, right, many))
                    self.assertLessEqual(asker.asked, min(len(left), len(right)).bit_length())
                self.assertEqual((left, right), kept)

    def test_one_side_empty(self):
        for many in range(4):
            self.whole(cut_of_two(Asker(row_of(1, 2, 3), UP, 0), [0, 1, 2], [], many), many)
            self.whole(cut_of_two(Asker(row_of(1, 2, 3), UP, 0), [], [0, 1, 2], many), 0)

    def test_spent_and_given_more(self):
        row = row_of(*range(0, 40, 2), *range(1, 41, 2))
        for many in (3, 20, 33):
            self.spent_and_widened(row, UP, lambda asker: cut_of_two(asker, list(range(20)), list(range(20, 40)), many))


class JoinedApart(HallCase):
    def apart(self, row, rule, left, right, parts):
        asker = Asker(row, rule)
        told = joined_apart(asker, left, right, parts)
        paper = in_order(row, rule, left + right)
        both = len(paper)
        self.assertIs(type(told), list)
        wanted = [paper[both * part // parts:both * (part + 1) // parts] for part in range(parts)]
        self.assertEqual(told, wanted)
        self.whole_list(sum(told, []))
        self.as_the_model(asker, told, lambda ahead: models.apart(ahead, left, right, parts))
        cuts = (parts - 1) * min(len(left), len(right)).bit_length()
        joins = [(len([1 for place in part if place in left]), len(part)) for part in told]
        most = cuts + sum(bounds.joined(from_left, whole - from_left) for from_left, whole in joins)
        self.assertLessEqual(asker.asked, most)

    def test_what_is_asked(self):
        asker = Asker(row_of(1, 3, 5, 2, 4, 6), UP)
        self.assertEqual(joined_apart(asker, [0, 1, 2], [3, 4, 5], 3), [[0, 3], [1, 4], [2, 5]])
        cuts = [(3, 1, True), (4, 0, False)] + [(4, 2, True), (5, 1, False)]
        joins = [(3, 0, False), (4, 1, False), (5, 2, False)]
        self.assertEqual(asker.answers(), cuts + joins)

    def test_one_part_is_the_join(self):
        for row, rule in rows_and_rules((0, 1, 9), order_rules()):
            for left, right in deals(row, rule):
                one = Asker(row, rule)
                other = Asker(row, rule)
                self.assertEqual(joined_apart(one, left, right, 1), [joined(other, left, right)])
                self.assertEqual(one.answers(), other.answers())

    def test_parts_of_rows_of_all_kinds(self):
        for row, rule in rows_and_rules((0, 1, 2, 5, 20), order_rules()):
            for left, right in deals(row, rule):
                kept = (list(left), list(right))
                for parts in (1, 2, 3, 4, 7, 20, 33):
                    self.apart(row, rule, left, right, parts)
                self.assertEqual((left, right), kept)

    def test_three_hundred_parts(self):
        row = row_of(*[place * 89 % 300 for place in range(300)])
        left, right = deals(row, UP)[0]
        self.apart(row, UP, left, right, 300)

    def test_answers_show_the_paper(self):
        for row, rule in rows_and_rules((2, 9, 20), order_rules()):
            middle = len(row) // 2
            for parts in (1, 2, 3, 7, 30):
                asker = Asker(row, rule)
                left = by_pile(asker, 1, (0, middle))
                right = by_pile(asker, 1, (middle, len(row)))
                told = sum(joined_apart(asker, left, right, parts), [])
                self.assertEqual(told, one_paper(row, rule))
                self.assertIs(shows(told, asker.answers()), True)

    def test_spent_and_given_more(self):
        for row, rule in rows_and_rules((9,), (UP, DOWN)):
            for (left, right), parts in itertools.product(deals(row, rule), (1, 3, 5)):
                self.spent_and_widened(row, rule, lambda asker: joined_apart(asker, left, right, parts))

    def test_told_lists_are_the_askers_own(self):
        left = [0, 1]
        for part in joined_apart(Asker(row_of(1, 2), UP), left, [], 2):
            part.append(9)
        self.assertEqual(left, [0, 1])


if __name__ == "__main__":
    unittest.main()
