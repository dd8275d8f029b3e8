"""Rules as texts: point 45."""

import itertools
import unittest

from sorthall.errors import HallError, NoRule
from sorthall.rules import ChainRule, KeyRule, NearRule, RingRule, Rule, VoteRule
from sorthall.ruletexts import read_rule
from support import HallCase

SIXTY = "9" * 60
THINGS = [tuple(numbers) + (3, 1, -4, 5, 12, 7) for numbers in itertools.product((-3, 0, 2, 7), repeat=2)]
THINGS += [(0, 0, number, -number, 0, number * number, 0, number) for number in (-9, -1, 1, 4, 10 ** 60)]


class RuleCase(HallCase):
    def same(self, text, rule):
        """The text is read to a rule that puts before and has the widest as this one."""
        told = read_rule(text)
        self.assertIsInstance(told, Rule)
        self.whole(told.widest(), rule.widest())
        for x, y in itertools.product(THINGS, repeat=2):
            self.assertIs(told.before(x, y), rule.before(x, y), (text, x, y))

    def refused(self, text):
        with self.assertRaises(NoRule, msg=repr(text)) as taken:
            read_rule(text)
        self.assertIsInstance(taken.exception, HallError)


class Read(RuleCase):
    def test_without_signs(self):
        self.same("", Rule())
        self.same("", ChainRule([]))

    def test_up_and_down(self):
        for at, way in itertools.product(range(8), ("up", "down")):
            self.same(f"{way} {at}", KeyRule([(at, way)]))

    def test_near(self):
        for at, gap in itertools.product(range(8), (0, 1, 2, 5, 10, 305)):
            self.same(f"near {at} {gap}", NearRule(at, gap))
        self.same(f"near 2 {SIXTY}", NearRule(2, int(SIXTY)))

    def test_ring(self):
        for at, size in itertools.product(range(8), (1, 2, 3, 7, 10, 305)):
            self.same(f"ring {at} {size}", RingRule(at, size))
        self.same(f"ring 2 {SIXTY}", RingRule(2, int(SIXTY)))

    def test_votes(self):
        self.same("votes up 0", VoteRule([KeyRule([(0, "up")])]))
        self.same("votes near 1 2", VoteRule([NearRule(1, 2)]))
        three = [KeyRule([(0, "up")]), KeyRule([(1, "down")]), RingRule(0, 5)]
        self.same("votes up 0 | down 1 | ring 0 5", VoteRule(three))
        self.same("votes up 0 | up 0 | down 0 | near 1 3", VoteRule([three[0], three[0], KeyRule([(0, "down")]), NearRule(1, 3)]))

    def test_parts_together(self):
        near = NearRule(0, 4)
        down = KeyRule([(1, "down")])
        ring = RingRule(0, 6)
        votes = VoteRule([KeyRule([(0, "up")]), down])
        self.same("near 0 4, down 1", ChainRule([near, down]))
        self.same("down 1, near 0 4", ChainRule([down, near]))
        self.same("ring 0 6, votes up 0 | down 1, near 0 4", ChainRule([ring, votes, near]))
        self.same("votes up 0 | down 1, votes down 1, up 7", ChainRule([votes, VoteRule([down]), KeyRule([(7, "up")])]))
        self.same("up 0, up 0, down 0", ChainRule([KeyRule([(0, "up")])]))

    def test_twenty_parts(self):
        text = ", ".join(["near 0 100"] * 19 + ["down 1"])
        self.same(text, ChainRule([NearRule(0, 100), KeyRule([(1, "down")])]))
        text = "votes " + " | ".join(["up 0"] * 10 + ["down 0"] * 9)
        self.same(text, KeyRule([(0, "up")]))

    def test_parts_that_put_nothing_before_another(self):
        self.same("near 0 0, ring 0 1, ring 0 2", NearRule(0, 0))

    def test_widest(self):
        for text, widest in (
            ("", -1), ("up 0", 0), ("up 3, down 1", 3), ("votes up 2 | near 6 1, down 5", 6), ("near 7 0", 7),
            ("ring 4 1, up 0", 4),
        ):
            self.whole(read_rule(text).widest(), widest)


class Refused(RuleCase):
    GOOD = ["up 0", "down 7", "near 3 12", "ring 1 5", "votes up 0", "votes up 0 | near 1 2 | down 3"]

    def test_good_ones_are_read(self):
        for text in self.GOOD:
            read_rule(text)

    def test_commas(self):
        for one, other in itertools.product(self.GOOD, repeat=2):
            for between in (",", " ,", " , ", ",  ", ",, ", ", , ", "; ", " ", "\n", ",\n", ", \n", ""):
                self.refused(one + between + other)
            for wrong in (", " + one, one + ", ", "," + one, one + ",", one + ", " + other + ", ", one + ","):
                self.refused(wrong)
        for text in (",", ", ", " ", "  ", "\n", ", , "):
            self.refused(text)

    def test_blanks(self):
        for text in self.GOOD:
            self.refused(" " + text)
            self.refused(text + " ")
            self.refused(text.replace(" ", "  ", 1))
            self.refused(text.replace(" ", "  "))
            self.refused(text.replace(" ", ""))
            self.refused(text.replace(" ", "", 1))
            self.refused(text.replace(" ", "\n", 1))
            self.refused(text.replace(" ", "\t", 1))
            self.refused(text + "\n")
            self.refused("\n" + text)

    def test_each_blank_twice_or_not(self):
        for text in self.GOOD + ["votes near 0 1 | ring 2 3, up 4, near 5 6"]:
            for spot, sign in enumerate(text):
                if sign == " ":
                    self.refused(text[:spot] + text[spot + 1:])
                    self.refused(text[:spot] + " " + text[spot:])

    def test_other_words(self):
        for word in ("Up", "UP", "upp", "u", "", "Down", "key", "rule", "chain", "table", "asked", "0", "vote", "Votes"):
            self.refused(f"{word} 0")
            self.refused(f"{word} 0 1")
            self.refused(f"up 0, {word} 0")
        for text in ("up", "down", "near", "ring", "votes", "near 0", "ring 0", "up 0 1", "down 0 0", "near 0 1 2",
                     "ring 0 1 2", "up zero", "near 0 one", "0 up", "near up 0", "up up 0", "up down"):
            self.refused(text)

    def test_numbers_of_places(self):
        for at in ("8", "9", "10", "00", "01", "07", "-0", "-1", "+1", "a", "", "0.0", "1_", "77"):
            for text in (f"up {at}", f"down {at}", f"near {at} 1", f"ring {at} 5", f"votes up {at}", f"up 0, up {at}"):
                self.refused(text)

    def test_gaps_and_sizes(self):
        for number in ("00", "01", "-0", "-00", "-01", "+1", "--1", "-", "", "1-", "1_0", "1.", "0x1", "1e1", "a",
                       "1" * 61, "-" + "1" * 61, "0" * 60, "1 0"):
            for text in (f"near 0 {number}", f"ring 0 {number}", f"votes near 0 {number}", f"up 0, ring 0 {number}"):
                self.refused(text)

    def test_a_gap_below_nought(self):
        for gap in ("-1", "-5", "-" + SIXTY):
            self.refused(f"near 0 {gap}")
            self.refused(f"votes up 0 | near 0 {gap}")
            self.refused(f"up 0, near 0 {gap}")

    def test_a_size_below_one(self):
        for size in ("0", "-1", "-" + SIXTY):
            self.refused(f"ring 0 {size}")
            self.refused(f"votes up 0 | ring 0 {size}")
            self.refused(f"up 0, ring 0 {size}")

    def test_votes(self):
        for text in ("votes", "votes ", "votes  up 0", "votes |", "votes | ", "votes  | ", "votes up 0 |", "votes up 0 | ",
                     "votes | up 0", "votes up 0|up 1", "votes up 0 |up 1", "votes up 0| up 1", "votes up 0 | | up 1",
                     "votes up 0 |  | up 1", "votes up 0 || up 1", "votes up 0 up 1", "votes votes up 0",
                     "votes up 0 | votes up 1", "up 0 | up 1", "votes, up 0", "votes , up 0", "votes up 0 | , up 1",
                     "votes up 0 |, up 1", "votesup 0", "up 0, votes", "votes: up 0", "votes up 0 ; up 1"):
            self.refused(text)

    def test_what_is_no_text(self):
        for what in (None, 0, 5, True, [], ["up 0"], ("up 0",), {}, b"up 0", KeyRule([(0, "up")])):
            self.refused(what)


if __name__ == "__main__":
    unittest.main()
