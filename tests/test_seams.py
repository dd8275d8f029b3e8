"""Seams: point 30."""

import itertools
import random
import unittest

from sorthall.seams import grade
from support import HallCase

SIXTY = 10 ** 60 - 1


def told_grade(many, first, middle, beyond):
    """The words of point 30."""
    for p in itertools.count(1):
        if (first + middle) * 2 ** p // (2 * many) != (middle + beyond) * 2 ** p // (2 * many):
            return p


class Grade(HallCase):
    def test_examples(self):
        self.whole(grade(2, 0, 1, 2), 1)
        self.whole(grade(8, 0, 4, 8), 1)
        self.whole(grade(8, 0, 1, 2), 3)
        self.whole(grade(8, 2, 3, 4), 3)
        self.whole(grade(8, 1, 2, 3), 2)
        self.whole(grade(8, 3, 4, 5), 1)
        self.whole(grade(4, 0, 1, 2), 2)
        self.whole(grade(10, 0, 7, 10), 1)
        self.whole(grade(10, 6, 7, 10), 2)

    def test_all_seams_of_short_rows(self):
        for many in range(2, 25):
            for first, middle, beyond in itertools.combinations(range(many + 1), 3):
                told = grade(many, first, middle, beyond)
                self.whole(told, told_grade(many, first, middle, beyond))
                self.assertLessEqual(told, (many - 1).bit_length())

    def test_numbers_of_sixty_figures(self):
        chance = random.Random(60)
        for many in (SIXTY, 10 ** 60, 10 ** 65 - 1, 2 ** 199, 2 ** 199 + 1):
            for turn in range(60):
                first = chance.randrange(many // 2)
                near = many // 2 ** chance.randrange(3, 190)
                middle = first + 1 + chance.randrange(near)
                beyond = middle + 1 + chance.randrange(near)
                told = grade(many, first, middle, beyond)
                self.whole(told, told_grade(many, first, middle, beyond))
                self.assertLessEqual(told, (many - 1).bit_length())

    def test_the_bound_is_met(self):
        for many in (2, 8, 1024, 2 ** 199):
            self.whole(grade(many, 0, 1, 2), (many - 1).bit_length())
        self.whole(grade(SIXTY, SIXTY - 2, SIXTY - 1, SIXTY), told_grade(SIXTY, SIXTY - 2, SIXTY - 1, SIXTY))

    def test_a_lesser_one_between_two_alike(self):
        for many in range(2, 10):
            for cuts in itertools.product((False, True), repeat=many - 1):
                ends = [0] + [place for place, cut in enumerate(cuts, 1) if cut] + [many]
                grades = [grade(many, *ends[spot:spot + 3]) for spot in range(len(ends) - 2)]
                for one, other in itertools.combinations(range(len(grades)), 2):
                    if grades[one] == grades[other]:
                        self.assertLess(min(grades[one:other]), grades[one])


if __name__ == "__main__":
    unittest.main()
