"""The asker: points 5, 14, 15, and 2 as far as it speaks of it."""

import itertools
import unittest

from sorthall.askers import Asker
from sorthall.errors import HallError, Spent
from sorthall.rules import AskedRule, KeyRule, Rule

UP = KeyRule([(0, "up")])
ROW = [(3,), (1,), (3,), (2,)]


def listening(heard, told=False):
    """A rule that keeps what it was asked, and always tells the same."""

    def teller(x, y):
        heard.append((x, y))
        return told

    return AskedRule(teller)


class AskerCase(unittest.TestCase):
    def whole(self, told, wanted):
        self.assertEqual(told, wanted)
        self.assertIs(type(told), int)

    def spent(self, asker, p, q, asked):
        with self.assertRaises(Spent) as taken:
            asker.ahead(p, q)
        self.whole(taken.exception.asked, asked)
        self.whole(asker.asked, asked)
        self.assertIsInstance(taken.exception, HallError)


class Made(AskerCase):
    def test_many(self):
        for many in (0, 1, 2, 7, 301):
            self.whole(Asker([(0,)] * many, UP).many(), many)

    def test_a_new_asker(self):
        heard = []
        asker = Asker(ROW, listening(heard))
        self.whole(asker.asked, 0)
        self.assertIsNone(asker.most)
        self.assertEqual(asker.answers(), [])
        self.assertEqual(heard, [])

    def test_most(self):
        self.assertIsNone(Asker(ROW, UP, None).most)
        self.assertIsNone(Asker(ROW, UP, most=None).most)
        self.whole(Asker(ROW, UP, 0).most, 0)
        self.whole(Asker(ROW, UP, most=5).most, 5)

    def test_two_askers_of_one_row_keep_apart(self):
        one = Asker(ROW, UP, 2)
        other = Asker(ROW, UP, 2)
        one.ahead(0, 1)
        one.widen(4)
        self.assertEqual((other.asked, other.most, other.answers()), (0, 2, []))


class Ahead(AskerCase):
    def test_each_two_places_both_ways_round(self):
        ahead = {(1, 0), (0, 2), (3, 0), (1, 2), (1, 3), (3, 2)}
        for p, q in itertools.permutations(range(4), 2):
            self.assertIs(Asker(ROW, UP).ahead(p, q), (p, q) in ahead, (p, q))

    def test_neither_before_the_other_keeps_its_turn(self):
        for rule in (UP, Rule()):
            asker = Asker([(5,), (5,)], rule)
            self.assertIs(asker.ahead(0, 1), True)
            self.assertIs(asker.ahead(1, 0), False)
            self.assertEqual(asker.answers(), [(1, 0, False), (1, 0, False)])

    def test_each_put_before_the_other(self):
        asker = Asker(["a", "b"], AskedRule(lambda x, y: True))
        self.assertIs(asker.ahead(1, 0), True)
        self.assertIs(asker.ahead(0, 1), False)
        self.assertEqual(asker.answers(), [(1, 0, True), (1, 0, True)])

    def test_one_ask_the_later_thing_first(self):
        row = [[0], {"a": 1}, "text", None]
        for told in (True, False):
            for p, q in itertools.permutations(range(4), 2):
                heard = []
                asker = Asker(row, listening(heard, told))
                self.assertIs(asker.ahead(p, q), told if p > q else not told)
                self.assertEqual(len(heard), 1)
                self.assertIs(heard[0][0], row[max(p, q)])
                self.assertIs(heard[0][1], row[min(p, q)])

    def test_asked_again_is_one_more_ask(self):
        heard = []
        asker = Asker(ROW, listening(heard))
        for turn in range(3):
            asker.ahead(2, 1)
        self.assertEqual(len(heard), 3)
        self.whole(asker.asked, 3)

    def test_unlike_answers_to_one_ask(self):
        coming = [True, False]
        asker = Asker(["a", "b"], AskedRule(lambda x, y: coming.pop(0)))
        self.assertIs(asker.ahead(1, 0), True)
        self.assertIs(asker.ahead(1, 0), False)
        self.assertEqual(asker.answers(), [(1, 0, True), (1, 0, False)])


class CountAndAnswers(AskerCase):
    def test_behind_each_ask(self):
        for most in (None, 12, 20):
            asker = Asker(ROW, UP, most)
            wanted = []
            for p, q in itertools.permutations(range(4), 2):
                asker.ahead(p, q)
                later = max(p, q)
                earlier = min(p, q)
                wanted.append((later, earlier, ROW[later] < ROW[earlier]))
                self.whole(asker.asked, len(wanted))
                self.assertEqual(asker.most, most)
                self.assertEqual(asker.answers(), wanted)

    def test_kinds_within_answers(self):
        asker = Asker(ROW, UP)
        asker.ahead(0, 1)
        asker.ahead(1, 2)
        told = asker.answers()
        self.assertIs(type(told), list)
        for answer in told:
            self.assertIs(type(answer), tuple)
            self.assertEqual([type(part) for part in answer], [int, int, bool])

    def test_a_list_that_was_told_and_changed_changes_nothing(self):
        asker = Asker(ROW, UP)
        asker.ahead(0, 1)
        told = asker.answers()
        told.append((3, 2, True))
        told[0] = None
        self.assertEqual(asker.answers(), [(1, 0, True)])
        self.whole(asker.asked, 1)

    def test_a_list_that_was_told_stays_as_it_is(self):
        asker = Asker(ROW, UP)
        empty = asker.answers()
        asker.ahead(0, 1)
        told = asker.answers()
        asker.ahead(2, 3)
        asker.widen(1)
        self.assertEqual(empty, [])
        self.assertEqual(told, [(1, 0, True)])
        self.assertEqual(asker.answers(), [(1, 0, True), (3, 2, True)])


class RowHandedIn(AskerCase):
    def test_stays_as_it_is(self):
        row = [[3], [1], [2]]
        things = list(row)
        asker = Asker(row, AskedRule(lambda x, y: x[0] < y[0]), 3)
        asker.ahead(0, 1)
        asker.ahead(2, 1)
        asker.answers()
        asker.widen(3)
        self.assertEqual(row, [[3], [1], [2]])
        for thing, kept in zip(row, things, strict=True):
            self.assertIs(thing, kept)

    def test_changed_afterwards_it_changes_nothing(self):
        row = [(3,), (1,)]
        asker = Asker(row, UP)
        row[0] = (0,)
        row.append((9,))
        self.whole(asker.many(), 2)
        self.assertIs(asker.ahead(1, 0), True)
        row.clear()
        self.whole(asker.many(), 2)
        self.assertIs(asker.ahead(0, 1), False)


class Bound(AskerCase):
    def test_none_may_be_made(self):
        heard = []
        asker = Asker(ROW, listening(heard), 0)
        self.spent(asker, 0, 1, 0)
        self.spent(asker, 1, 0, 0)
        self.assertEqual(heard, [])
        self.assertEqual(asker.answers(), [])

    def test_just_at_the_bound(self):
        for most in (1, 2, 5):
            heard = []
            asker = Asker(ROW, listening(heard), most)
            for turn in range(most):
                asker.ahead(1, 2)
            answers = asker.answers()
            self.assertEqual(len(answers), most)
            for turn in range(3):
                self.spent(asker, 3, 0, most)
            self.assertEqual(len(heard), most)
            self.assertEqual(asker.answers(), answers)
            self.whole(asker.most, most)

    def test_without_bound(self):
        for asker in (Asker(ROW, UP), Asker(ROW, UP, None)):
            for turn in range(2000):
                asker.ahead(0, 1)
            self.whole(asker.asked, 2000)
            self.assertIsNone(asker.most)

    def test_a_long_bound(self):
        asker = Asker(ROW, UP, 10 ** 60)
        asker.ahead(0, 1)
        asker.widen(1)
        self.whole(asker.most, 10 ** 60 + 1)


class Widened(AskerCase):
    def test_gives_none(self):
        for most in (None, 0, 4):
            for more in (0, 3):
                self.assertIsNone(Asker(ROW, UP, most).widen(more))

    def test_by_nought(self):
        asker = Asker(ROW, UP, 1)
        asker.ahead(0, 1)
        asker.widen(0)
        self.whole(asker.most, 1)
        self.spent(asker, 0, 1, 1)

    def test_by_more(self):
        asker = Asker(ROW, UP, 1)
        asker.ahead(0, 1)
        self.spent(asker, 2, 1, 1)
        asker.widen(2)
        self.whole(asker.most, 3)
        self.whole(asker.asked, 1)
        self.assertEqual(asker.answers(), [(1, 0, True)])
        self.assertIs(asker.ahead(2, 1), False)
        self.assertIs(asker.ahead(1, 2), True)
        self.spent(asker, 2, 1, 3)
        self.assertEqual(asker.answers(), [(1, 0, True), (2, 1, False), (2, 1, False)])

    def test_ahead_of_the_bound_and_again(self):
        asker = Asker(ROW, UP, 0)
        asker.widen(1)
        asker.widen(2)
        self.whole(asker.most, 3)
        for turn in range(3):
            asker.ahead(0, 1)
        self.spent(asker, 0, 1, 3)

    def test_without_bound_it_stays_without(self):
        asker = Asker(ROW, UP)
        asker.widen(0)
        self.assertIsNone(asker.most)
        asker.widen(5)
        self.assertIsNone(asker.most)
        for turn in range(9):
            asker.ahead(0, 1)
        self.whole(asker.asked, 9)


if __name__ == "__main__":
    unittest.main()
