"""Rows as texts, and sheets: points 46 and 47."""

import itertools
import random
import unittest

from sorthall.errors import HallError, NoPaper, NoRow
from sorthall.papers import straight
from sorthall.rowtexts import read_row, sheet, shown_row
from support import HallCase, row_of

SIXTY = 10 ** 60 - 1
TEXTS = [
    ("", []),
    ("0", [(0,)]),
    ("-1", [(-1,)]),
    ("5\n5", [(5,), (5,)]),
    ("1 2\n3 4", [(1, 2), (3, 4)]),
    ("10 -20 0\n0 0 0\n-7 70 700", [(10, -20, 0), (0, 0, 0), (-7, 70, 700)]),
    ("1 2 3 4 5 6 7 8", [(1, 2, 3, 4, 5, 6, 7, 8)]),
    (f"{SIXTY} {-SIXTY}\n0 1", [(SIXTY, -SIXTY), (0, 1)]),
]


class ReadAndShown(HallCase):
    def test_read(self):
        for text, row in TEXTS:
            told = read_row(text)
            self.assertEqual(told, row)
            self.assertIs(type(told), list)
            for thing in told:
                self.assertIs(type(thing), tuple)
                self.whole_list(list(thing))

    def test_shown(self):
        for text, row in TEXTS:
            self.assertEqual(shown_row(row), text)

    def test_read_and_shown_again(self):
        chance = random.Random(4)
        for many, wide in itertools.product((1, 2, 30), range(1, 9)):
            row = [tuple(chance.randrange(-10 ** 9, 10 ** 9) // 10 ** chance.randrange(10) for number in range(wide))
                   for thing in range(many)]
            self.assertEqual(read_row(shown_row(row)), row)
            self.assertEqual(shown_row(read_row(shown_row(row))), shown_row(row))

    def test_the_row_stays(self):
        row = [(1, 2), (3, 4)]
        shown_row(row)
        sheet(row, [1, 0])
        self.assertEqual(row, [(1, 2), (3, 4)])


class Refused(HallCase):
    def refused(self, text, line):
        with self.assertRaises(NoRow, msg=repr(text)) as taken:
            read_row(text)
        self.whole(taken.exception.line, line)
        self.assertIsInstance(taken.exception, HallError)

    def test_lines_that_are_no_things(self):
        for wrong in ("", " ", "a", "1 a", " 1 2", "1 2 ", "1  2", "1,2", "1, 2", "1\t2", "+1 2", "01 2", "1 02", "-0 1",
                      "1 -0", "00 1", "1 -", "- 1", "--1 2", "1 2-", "1_0 2", "1. 2", "0x1 2", "1e2 2", "1 -01",
                      "1" * 61 + " 2", "1 -" + "1" * 61, "1 2 3 4 5 6 7 8 9"):
            if wrong:
                self.refused(wrong, 0)
            self.refused(wrong + "\n1 2", 0)
            self.refused("1 2\n" + wrong, 1)
            self.refused("1 2\n3 4\n" + wrong + "\n5 6", 2)
            self.refused("1 2\n" + wrong + "\n" + wrong, 1)

    def test_not_as_many_numbers_as_the_first_line(self):
        self.refused("1\n2 3", 1)
        self.refused("1 2\n3", 1)
        self.refused("1 2\n3 4\n5 6 7", 2)
        self.refused("1 2\n3 4\n5\n6", 2)
        self.refused("1\n2\n3 3\nx", 2)
        self.refused("1\nx\n3 3", 1)

    def test_line_ends(self):
        self.refused("\n", 0)
        self.refused("1\n", 1)
        self.refused("\n1", 0)
        self.refused("1\n\n2", 1)
        self.refused("1\n2\n\n", 2)

    def test_far_down(self):
        self.refused("\n".join(["1 2"] * 250 + ["1 2 3"] + ["1 2"] * 9), 250)


class Sheet(HallCase):
    def test_places_of_one_figure(self):
        self.assertEqual(sheet([], []), "")
        self.assertEqual(sheet([(5,)], [0]), "0: 5")
        self.assertEqual(sheet([(5, 1), (-4, 2), (3, 0)], [2, 1, 0]), "2: 3 0\n1: -4 2\n0: 5 1")
        self.assertEqual(sheet(row_of(*range(10)), straight(10)).split("\n")[9], "9: 9")

    def test_places_of_two_figures(self):
        lines = sheet(row_of(*range(11)), straight(11)[::-1]).split("\n")
        self.assertEqual(lines, ["10: 10"] + [f" {place}: {place}" for place in range(9, -1, -1)])
        self.assertEqual(sheet(row_of(*range(100)), straight(100)).split("\n")[7:11:3], [" 7: 7", "10: 10"])

    def test_places_of_three_figures(self):
        lines = sheet(row_of(*range(0, 202, 2)), [100] + straight(100)).split("\n")
        self.assertEqual(len(lines), 101)
        self.assertEqual(lines[:2], ["100: 200", "  0: 0"])
        self.assertEqual(lines[11], " 10: 20")

    def test_each_line(self):
        row = [(place * 7 % 13, -place) for place in range(120)]
        paper = [place * 7 % 120 for place in range(120)]
        wanted = "\n".join(f"{place:3}: {row[place][0]} {row[place][1]}" for place in paper)
        self.assertEqual(sheet(row, paper), wanted)

    def test_unlike_numbers_of_numbers(self):
        self.assertEqual(sheet([(1, 2), (3,), (4, 5, 6)], [1, 0, 2]), "1: 3\n0: 1 2\n2: 4 5 6")

    def test_no_papers(self):
        row = [(1,), (2,), (3,)]
        for wrong in ([], [0], [0, 1], [0, 1, 2, 3], [0, 1, 1], [1, 2, 3], [-1, 0, 1], [0, 1, 5], [0, 0, 0], [True, 0, 2]):
            with self.assertRaises(NoPaper) as taken:
                sheet(row, wrong)
            self.assertIsInstance(taken.exception, HallError)
        self.assertRaises(NoPaper, sheet, [], [0])


if __name__ == "__main__":
    unittest.main()
