"""By reach: point 26, with 2, 5, 6 and 8."""

import itertools
import unittest

import models
from sorthall.askers import Asker
from sorthall.errors import HallError, TooFar
from sorthall.papers import shows
from sorthall.reach import by_reach
from sorthall.rules import Rule
from support import DOWN, UP, HallCase, Echo, one_paper, order_rules, row_of, rows_and_rules, some_rows


def passed(row, rule):
    """For each place how many lesser places it stands ahead of."""
    paper = one_paper(row, rule)
    return [len([other for other in range(place) if paper.index(place) < paper.index(other)])
            for place in range(len(row))]


class ReachCase(HallCase):
    def right(self, row, rule, reach):
        """The paper, or the refusal, as the document tells; and what was asked."""
        far = [place for place, others in enumerate(passed(row, rule)) if others > reach]
        asker = Asker(row, rule)
        if not far:
            told = by_reach(asker, reach)
            self.whole_list(told)
            self.assertEqual(told, one_paper(row, rule))
            self.assertIs(shows(told, asker.answers()), True)
            self.as_the_model(asker, told, lambda ahead: models.reach(ahead, len(row), reach))
        else:
            self.refused(asker, row, rule, reach, far[0])
        self.bound(asker, reach)

    def refused(self, asker, row, rule, reach, place):
        with self.assertRaises(TooFar) as taken:
            by_reach(asker, reach)
        self.whole(taken.exception.place, place)
        others = taken.exception.others
        self.whole_list(others)
        self.assertEqual(len(others), reach + 1)
        self.assertEqual(others, sorted(set(others)))
        paper = one_paper(row, rule)
        for other in others:
            self.assertIn(other, range(place))
            self.assertLess(paper.index(place), paper.index(other))
        echo = Echo(asker.answers())
        with self.assertRaises(models.Refused) as told:
            models.reach(echo.ahead, len(row), reach)
        self.assertEqual((told.exception.args[0], echo.asks), (place, asker.answers()))

    def bound(self, asker, reach):
        """A place that is put in was the later one of all its asks."""
        asked = [later for later, earlier, said in asker.answers()]
        for place in range(asker.many()):
            self.assertLessEqual(asked.count(place), 1 + reach.bit_length())


class Examples(ReachCase):
    def test_reach_one(self):
        asker = Asker(row_of(2, 1, 4, 3, 5), UP)
        self.assertEqual(by_reach(asker, 1), [1, 0, 3, 2, 4])
        self.assertEqual(asker.answers(), [
            (1, 0, True),
            (2, 1, False), (2, 0, False),
            (3, 0, False), (3, 2, True),
            (4, 3, False), (4, 2, False),
        ])

    def test_reach_two(self):
        asker = Asker(row_of(3, 2, 1, 4), UP)
        self.assertEqual(by_reach(asker, 2), [2, 1, 0, 3])
        self.assertEqual(asker.answers(), [
            (1, 0, True),
            (2, 0, True), (2, 1, True),
            (3, 2, False), (3, 0, False),
        ])

    def test_reach_nought(self):
        asker = Asker(row_of(1, 1, 2), UP)
        self.assertEqual(by_reach(asker, 0), [0, 1, 2])
        self.assertEqual(asker.answers(), [(1, 0, False), (2, 1, False)])
        asker = Asker(row_of(1, 3, 2, 0), UP)
        self.refused(asker, row_of(1, 3, 2, 0), UP, 0, 2)
        self.assertEqual(asker.answers(), [(1, 0, False), (2, 1, True)])

    def test_too_far(self):
        row = row_of(5, 6, 7, 8, 1)
        for reach in (0, 1, 2, 3):
            asker = Asker(row, UP)
            with self.assertRaises(TooFar) as taken:
                by_reach(asker, reach)
            self.assertEqual((taken.exception.place, taken.exception.others), (4, list(range(3 - reach, 4))))
            self.assertIsInstance(taken.exception, HallError)
        self.assertEqual(by_reach(Asker(row, UP), 4), [4, 0, 1, 2, 3])

    def test_others_rise_whatever_their_order(self):
        with self.assertRaises(TooFar) as taken:
            by_reach(Asker(row_of(9, 8, 7, 1), UP), 2)
        self.assertEqual((taken.exception.place, taken.exception.others), (3, [0, 1, 2]))

    def test_the_least_such_place(self):
        with self.assertRaises(TooFar) as taken:
            by_reach(Asker(row_of(1, 9, 9, 0, 2, 0), UP), 1)
        self.assertEqual(taken.exception.place, 3)

    def test_none_and_one(self):
        for reach in (0, 1, 5):
            self.assertEqual(by_reach(Asker([], UP, 0), reach), [])
            self.assertEqual(by_reach(Asker([(3,)], UP, 0), reach), [0])


class Rows(ReachCase):
    def test_rows_of_all_kinds(self):
        for row, rule in rows_and_rules((1, 2, 3, 7, 16), order_rules() + [Rule()]):
            for reach in (0, 1, 2, 3, 4, 7, 15, 16, 300):
                self.right(row, rule, reach)

    def test_each_short_row(self):
        for many in range(6):
            for numbers in itertools.product(range(3), repeat=many):
                for reach in range(many + 1):
                    self.right(row_of(*numbers), UP, reach)

    def test_nearly_in_order(self):
        for wide in (1, 2, 4, 9):
            row = row_of(*[place // wide * wide - place % wide for place in range(40)])
            most = max(passed(row, UP))
            self.assertEqual(most, wide - 1)
            for reach in range(wide + 3):
                self.right(row, UP, reach)

    def test_spent_and_given_more(self):
        for row, rule in itertools.product(some_rows(8), (UP, DOWN)):
            for reach in (0, 2, 7):
                if max(passed(row, rule)) <= reach:
                    self.spent_and_widened(row, rule, lambda asker: by_reach(asker, reach))

    def test_spent_ahead_of_too_far(self):
        row = row_of(1, 2, 3, 4, 0)
        free = Asker(row, UP)
        self.assertRaises(TooFar, by_reach, free, 1)
        for most in range(free.asked):
            asker = Asker(row, UP, most)
            with self.assertRaises(HallError) as taken:
                by_reach(asker, 1)
            self.assertEqual(taken.exception.asked, most)
            asker.widen(free.asked)
            self.assertRaises(TooFar, by_reach, asker, 1)
            self.assertEqual(asker.answers()[most:], free.answers())


if __name__ == "__main__":
    unittest.main()
