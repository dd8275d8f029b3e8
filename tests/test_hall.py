"""The hall: points 48 and 49, with 2 and 8."""

import itertools
import unittest

from sorthall.askers import Asker
from sorthall.errors import HallError, NoKey, NoOrder, NoRow, NoRule, Spent
from sorthall.hall import Hall
from sorthall.piles import by_pile
from sorthall.rounds import by_pieces
from sorthall.rowtexts import read_row, sheet, shown_row
from sorthall.rules import AskedRule, ChainRule, KeyRule, NearRule, RingRule, Rule, TableRule, VoteRule
from sorthall.ruletexts import read_rule
from support import DOWN, UP, HallCase, one_paper, order_rules, row_of, rows_and_rules, some_rows


class HallsCase(HallCase):
    def refused(self, kind, hall, row, rule, most=None):
        """Refused with this kind, and what is not to be noted is not noted."""
        before = hall.notes()
        with self.assertRaises(kind) as taken:
            hall.order(row, rule, most)
        self.assertIs(type(taken.exception), kind)
        self.assertIsInstance(taken.exception, HallError)
        if kind is not Spent:
            self.assertEqual(hall.notes(), before)
        return taken.exception


class Papers(HallsCase):
    def test_the_one_paper(self):
        for row, rule in rows_and_rules((0, 1, 2, 9, 25), order_rules()):
            for wide, mouths, least in ((1, 2, 1), (4, 3, 2), (9, 2, 1), (300, 5, 16)):
                hall = Hall(wide, mouths, least)
                told = hall.order(row, rule)
                self.whole_list(told)
                self.assertEqual(told, one_paper(row, rule))

    def test_by_pile_up_to_wide_things_else_by_pieces(self):
        for row, rule in rows_and_rules((1, 7, 8, 9, 20), (UP, DOWN)):
            for wide, mouths, least in itertools.product((1, 7, 8, 9), (2, 3), (1, 4)):
                asker = Asker(row, rule)
                if len(row) <= wide:
                    by_pile(asker, least)
                else:
                    by_pieces(asker, wide, mouths, least)
                heard = []

                def teller(x, y):
                    heard.append((x, y))
                    return rule.before(x, y)

                hall = Hall(wide, mouths, least)
                hall.order(row, AskedRule(teller))
                self.assertEqual(hall.notes(), [(len(row), asker.asked, "done")])
                asked = [(row[later], row[earlier]) for later, earlier, said in asker.answers()]
                self.assertEqual(heard[len(heard) - len(asked):], asked)

    def test_defaults_and_names(self):
        row = row_of(*[place * 7 % 20 for place in range(20)])
        one = Hall(3)
        other = Hall(wide=3, mouths=2, least=1)
        self.assertEqual(one.order(row, UP), other.order(row=row, rule=UP, most=None))
        self.assertEqual(one.notes(), other.notes())

    def test_what_is_handed_in_stays(self):
        row = row_of(3, 1, 2)
        told = Hall(2).order(row, UP)
        kept = list(told)
        self.assertEqual(row, row_of(3, 1, 2))
        row.clear()
        self.assertEqual(told, kept)

    def test_sixty_things(self):
        for row in some_rows(60):
            self.assertEqual(Hall(16, 3, 4).order(row, UP), one_paper(row, UP))


class Keys(HallsCase):
    def test_a_thing_that_lacks_the_number(self):
        for at in range(8):
            rules = [KeyRule([(at, "up")]), NearRule(at, 0), RingRule(at, 99), TableRule(at, [[False]])]
            rules += [VoteRule([NearRule(at, 0)]), ChainRule([KeyRule([(0, "up"), (at, "down")])])]
            for rule in rules:
                enough = (0,) * (at + 1)
                Hall(5).order([enough, enough], rule)
                if at > 0:
                    short = (0,) * at
                    for row in ([short], [short, enough], [enough, enough, short], [enough, short, enough]):
                        self.refused(NoKey, Hall(5), row, rule)

    def test_a_rule_that_names_none(self):
        for rule in (Rule(), AskedRule(lambda x, y: False), KeyRule([])):
            self.assertEqual(Hall(5).order([(1,), (2, 3), (4,)], rule), [0, 1, 2])

    def test_no_things_lack_nothing(self):
        self.assertEqual(Hall(5).order([], KeyRule([(7, "up")])), [])

    def test_ahead_of_the_other_refusals(self):
        heard = []

        def teller(x, y):
            heard.append((x, y))
            return True

        rule = ChainRule([AskedRule(teller), NearRule(1, 0)])
        self.refused(NoKey, Hall(5), [(1, 2), (1,)], rule, 0)
        self.assertEqual(heard, [])


class Orders(HallsCase):
    def flawed(self, row, rule, words, most=None):
        told = self.refused(NoOrder, Hall(3), row, rule, most).flaw
        self.assertIs(type(told), tuple)
        self.assertEqual((told[0], told[1] in words, len(told)), ("flaw", True, 3))
        p, q, r = told[2]
        if told[1] == "self":
            self.assertEqual((p, p), (q, r))
            self.assertTrue(rule.before(row[p], row[p]))
        elif told[1] == "both":
            self.assertEqual(p, r)
            self.assertTrue(rule.before(row[p], row[q]) and rule.before(row[q], row[p]) and p != q)
        else:
            self.assertTrue(rule.before(row[p], row[q]))
            self.assertFalse(rule.before(row[p], row[r]) or rule.before(row[r], row[q]))
            self.assertEqual(len({p, q, r}), 3)

    def test_flaws(self):
        self.flawed(row_of(0, 2, 4), NearRule(0, 3), ["tie"])
        self.flawed(row_of(9, 0, 1, 2), RingRule(0, 3), ["tie"])
        self.flawed(row_of(0, 1), TableRule(0, [[False, True], [True, False]]), ["both"])
        self.flawed(row_of(0), TableRule(0, [[True]]), ["self"])
        votes = VoteRule([KeyRule([(at, "up")]) for at in range(3)])
        self.flawed([(0, 1, 2), (1, 2, 0), (2, 0, 1)], votes, ["tie"])
        self.flawed(row_of(1, 2, 3, 4), AskedRule(lambda x, y: True), ["self", "both"])

    def test_ahead_of_spent(self):
        self.flawed(row_of(0, 2, 4), NearRule(0, 3), ["tie"], 0)

    def test_an_order_for_this_row(self):
        self.assertEqual(Hall(2).order(row_of(7, 0, 1), NearRule(0, 3)), [1, 2, 0])
        self.assertEqual(Hall(2).order(row_of(2, 0, 1), RingRule(0, 7)), [1, 2, 0])


class SpentAndNotes(HallsCase):
    def test_spent(self):
        for row, rule in rows_and_rules((9,), (UP, DOWN)):
            for wide in (3, 9):
                hall = Hall(wide)
                paper = hall.order(row, rule)
                need = hall.notes()[0][1]
                wanted = [(9, need, "done")]
                for most in range(need):
                    told = self.refused(Spent, hall, row, rule, most)
                    self.whole(told.asked, most)
                    wanted.append((9, most, "spent"))
                    self.assertEqual(hall.notes(), wanted)
                for most in (need, need + 1, None):
                    self.assertEqual(hall.order(row, rule, most), paper)
                    wanted.append((9, need, "done"))
                    self.assertEqual(hall.notes(), wanted)

    def test_looking_for_flaws_is_no_ask(self):
        hall = Hall(5)
        self.assertEqual(hall.order([], UP, 0), [])
        self.assertEqual(hall.order([(4,)], UP, 0), [0])
        self.assertEqual(hall.order(row_of(1, 2, 3), UP, 2), [0, 1, 2])
        self.assertEqual(hall.notes(), [(0, 0, "done"), (1, 0, "done"), (3, 2, "done")])

    def test_notes_in_turn_without_refused_keys_and_orders(self):
        hall = Hall(2)
        self.assertEqual(hall.notes(), [])
        hall.order(row_of(1, 2), UP)
        self.refused(NoKey, hall, row_of(1, 2), KeyRule([(1, "up")]))
        self.refused(NoOrder, hall, row_of(0, 2, 4), NearRule(0, 3))
        self.refused(Spent, hall, row_of(2, 1), UP, 0)
        hall.order([], DOWN)
        self.assertEqual(hall.notes(), [(2, 1, "done"), (2, 0, "spent"), (0, 0, "done")])

    def test_kinds_and_told_lists(self):
        hall = Hall(2)
        hall.order(row_of(1, 2), UP)
        told = hall.notes()
        self.assertIs(type(told), list)
        self.assertEqual([type(part) for part in told[0]], [int, int, str])
        self.assertIs(type(told[0]), tuple)
        hall.order(row_of(1, 2, 3), UP)
        self.assertEqual(len(told), 1)
        hall.notes().clear()
        self.assertEqual(len(hall.notes()), 2)

    def test_two_halls_keep_apart(self):
        one = Hall(2)
        other = Hall(2)
        one.order(row_of(1, 2), UP)
        self.assertEqual(other.notes(), [])


class Ordered(HallsCase):
    def test_from_text_to_sheet(self):
        hall = Hall(2)
        self.assertEqual(hall.ordered("up 0", "3 1\n1 2\n3 0"), "1: 1 2\n0: 3 1\n2: 3 0")
        self.assertEqual(hall.ordered("up 0, up 1", "3 1\n1 2\n3 0"), "1: 1 2\n2: 3 0\n0: 3 1")
        self.assertEqual(hall.ordered("", "3\n1"), "0: 3\n1: 1")
        self.assertEqual(hall.ordered("down 0", ""), "")
        self.assertEqual([note[0] for note in hall.notes()], [3, 3, 2, 0])
        self.assertEqual([note[2] for note in hall.notes()], ["done"] * 4)

    def test_places_of_two_figures(self):
        told = Hall(4).ordered("down 0", shown_row(row_of(*range(11)))).split("\n")
        self.assertEqual(told, ["10: 10"] + [f" {place}: {place}" for place in range(9, -1, -1)])

    def test_as_its_parts(self):
        for row in some_rows(14):
            for text in ("up 0", "down 1, up 2", "near 0 0, ring 1 4000", "votes up 0"):
                row_text = shown_row(row)
                paper = Hall(5).order(read_row(row_text), read_rule(text))
                self.assertEqual(Hall(5).ordered(text, row_text), sheet(row, paper))

    def test_the_rule_is_read_first(self):
        hall = Hall(2)
        self.assertRaises(NoRule, hall.ordered, "up", "1 x")
        self.assertRaises(NoRule, hall.ordered, None, "1 x")
        with self.assertRaises(NoRow) as taken:
            hall.ordered("up 5", "1\nx")
        self.whole(taken.exception.line, 1)
        self.assertEqual(hall.notes(), [])

    def test_refused_and_noted_as_a_row(self):
        hall = Hall(2)
        self.assertRaises(NoKey, hall.ordered, "up 1", "1\n2")
        with self.assertRaises(NoOrder) as taken:
            hall.ordered("near 0 3", "0\n2\n4", 0)
        self.assertEqual(taken.exception.flaw, ("flaw", "tie", (0, 2, 1)))
        self.assertEqual(hall.notes(), [])
        with self.assertRaises(Spent) as taken:
            hall.ordered("up 0", "3\n2\n1", 1)
        self.whole(taken.exception.asked, 1)
        self.assertEqual(hall.ordered(rule_text="up 0", row_text="3\n2\n1", most=9), "2: 1\n1: 2\n0: 3")
        notes = hall.notes()
        self.assertEqual([notes[0], notes[1][0], notes[1][2]], [(3, 1, "spent"), 3, "done"])


if __name__ == "__main__":
    unittest.main()
