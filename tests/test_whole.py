"""The whole program: points 1 to 9, over all ways at once."""

import copy
import importlib
import inspect
import itertools
import random
import unittest

import bounds
from sorthall import errors
from sorthall.askers import Asker
from sorthall.cuts import cut_of_two, joined_apart
from sorthall.errors import Spent, TooFar
from sorthall.flaws import ranked
from sorthall.hall import Hall
from sorthall.joins import joined
from sorthall.papers import agrees, back, behind, is_paper, laid, shows, straight
from sorthall.picks import so_manieth
from sorthall.piles import Pile, by_pile
from sorthall.pours import LastPour, Pour, poured
from sorthall.putting import by_putting, by_walking, filled, spot_of
from sorthall.reach import by_reach
from sorthall.rounds import by_pieces, in_rounds
from sorthall.rules import AskedRule, ChainRule, KeyRule, NearRule, RingRule, Rule, TableRule, VoteRule
from sorthall.stretches import stretches
from support import DOWN, UP, HallCase, is_order, one_paper, order_rules, row_of, rows_and_rules, some_rows, wild_rules

INTERFACE = {
    "errors": {"HallError": None, "NoRule": None, "NoPaper": None, "NoPlace": None, "NoKey": None, "NoRow": "(line)",
               "NoOrder": "(flaw)", "TooFar": "(place, others)", "Spent": "(asked)"},
    "rules": {"Rule": "()", "KeyRule": "(columns)", "NearRule": "(at, gap)", "RingRule": "(at, size)",
              "TableRule": "(at, table)", "VoteRule": "(rules)", "ChainRule": "(rules)", "AskedRule": "(teller)",
              "Rule.before": "(self, x, y)", "Rule.widest": "(self)"},
    "askers": {"Asker": "(row, rule, most=None)", "Asker.many": "(self)", "Asker.ahead": "(self, p, q)",
               "Asker.answers": "(self)", "Asker.widen": "(self, more)"},
    "papers": {"straight": "(many)", "is_paper": "(some)", "laid": "(row, paper)", "back": "(paper)",
               "behind": "(first, second)", "agrees": "(paper, answers)", "shows": "(paper, answers)"},
    "flaws": {"ranked": "(row, rule)"},
    "stretches": {"stretch_from": "(asker, first, end=None)", "in_turn": "(first, beyond, falling)",
                  "stretches": "(asker)"},
    "putting": {"spot_of": "(asker, order, place)", "by_putting": "(asker)", "by_walking": "(asker)",
                "filled": "(asker, first, least, end=None)"},
    "reach": {"by_reach": "(asker, reach)"},
    "leaps": {"leap": "(asker, order, first, place)"},
    "joins": {"joined": "(asker, left, right)"},
    "seams": {"grade": "(many, first, middle, beyond)"},
    "piles": {"Pile": "(asker, least=1, part=None)", "Pile.step": "(self)", "Pile.standing": "(self)",
              "Pile.paper": "(self)", "by_pile": "(asker, least=1, part=None)"},
    "pours": {"Pour": "(asker, pieces)", "LastPour": "(asker, pieces)", "Pour.first": "(self)", "Pour.take": "(self)",
              "Pour.left": "(self)", "poured": "(asker, pieces)"},
    "rounds": {"in_rounds": "(asker, pieces, mouths=2)", "by_pieces": "(asker, wide, mouths=2, least=1)"},
    "cuts": {"cut_of_two": "(asker, left, right, many)", "joined_apart": "(asker, left, right, parts)"},
    "picks": {"so_manieth": "(asker, many)"},
    "ruletexts": {"read_rule": "(text)"},
    "rowtexts": {"read_row": "(text)", "shown_row": "(row)", "sheet": "(row, paper)"},
    "hall": {"Hall": "(wide, mouths=2, least=1)", "Hall.order": "(self, row, rule, most=None)",
             "Hall.ordered": "(self, rule_text, row_text, most=None)", "Hall.notes": "(self)"},
}


def halves(asker, parts=None):
    """Both halves of the row, each by a pile, joined; in parts, if so many are told."""
    many = asker.many()
    left = by_pile(asker, 1, (0, many // 2))
    right = by_pile(asker, 3, (many // 2, many))
    return joined(asker, left, right) if parts is None else sum(joined_apart(asker, left, right, parts), [])


def piled_pieces(asker, wide):
    many = asker.many()
    return [by_pile(asker, 2, (first, min(many, first + wide))) for first in range(0, many, wide)]


def drained(asker):
    """All that a last pour takes, the other way round."""
    pour = LastPour(asker, piled_pieces(asker, 3))
    return [pour.take() for turn in range(pour.left())][::-1]


WAYS = {
    "by_putting": by_putting,
    "by_walking": by_walking,
    "by_reach": lambda asker: by_reach(asker, asker.many()),
    "by_pile": by_pile,
    "by_pile, 5": lambda asker: by_pile(asker, 5),
    "by_pieces": lambda asker: by_pieces(asker, 4),
    "by_pieces, 3 mouths": lambda asker: by_pieces(asker, 2, 3, 2),
    "joined": halves,
    "joined_apart": lambda asker: halves(asker, 3),
    "joined_apart, many": lambda asker: halves(asker, 40),
    "poured": lambda asker: poured(asker, piled_pieces(asker, 3)),
    "poured singly": lambda asker: poured(asker, [[place] for place in range(asker.many())]),
    "poured from behind": drained,
    "in_rounds": lambda asker: in_rounds(asker, piled_pieces(asker, 2), 3)[0],
}


def thing_rules():
    """Rules of many kinds for things of three numbers, whether an order for a row or not."""
    chance = random.Random(9)
    table = [[chance.random() < 0.4 for y in range(4)] for x in range(4)]
    ranks = [1, 0, 1, 2]
    order = [[ranks[x] < ranks[y] for y in range(4)] for x in range(4)]
    return order_rules() + [
        Rule(),
        NearRule(0, 2),
        RingRule(1, 5),
        TableRule(0, table),
        TableRule(1, order),
        VoteRule([KeyRule([(at, "up")]) for at in range(3)]),
        ChainRule([NearRule(0, 1), TableRule(1, order), DOWN]),
        AskedRule(lambda x, y: x[0] + x[1] < y[0] + y[1]),
    ]


class Interface(HallCase):
    def test_names_and_arguments(self):
        for module, names in INTERFACE.items():
            found = importlib.import_module(f"sorthall.{module}")
            for name, wanted in names.items():
                value = found
                for part in name.split("."):
                    value = getattr(value, part)
                if wanted is not None and name != "Rule":
                    self.assertEqual(str(inspect.signature(value)), wanted, name)
                self.assertEqual(value.__module__, f"sorthall.{module}", name)

    def test_a_rule_by_itself_and_the_bare_refusals_take_nothing(self):
        for kind in (Rule, errors.HallError, errors.NoRule, errors.NoPaper, errors.NoPlace, errors.NoKey):
            self.assertIsInstance(kind(), kind)


class OnePaper(HallCase):
    def orders(self, lengths):
        """Rows and rules that are an order for them, found by ranked."""
        found = 0
        for many in lengths:
            for row in some_rows(many, 1):
                row = [(x % 4 if many < 9 else x, y % 4, z) for x, y, z in row]
                for rule in thing_rules():
                    small = all(x < 4 for x, y, z in row) and all(x >= 0 for x, y, z in row)
                    if isinstance(rule, (TableRule, ChainRule)) and not small:
                        continue
                    if is_order(row, rule):
                        found += 1
                        yield row, rule
        self.assertGreater(found, 40)

    def test_all_ways_tell_it_and_their_answers_show_it(self):
        for row, rule in self.orders((0, 1, 2, 3, 5, 8, 20)):
            paper = one_paper(row, rule)
            self.assertEqual(ranked(row, rule)[0], "ranks")
            for name, way in WAYS.items():
                asker = Asker(row, rule)
                told = way(asker)
                self.whole_list(told)
                self.assertEqual(told, paper, name)
                self.assertIs(shows(told, asker.answers()), True, name)
                self.assertIs(agrees(told, asker.answers()), True, name)
            for many in range(len(row)):
                told = so_manieth(Asker(row, rule), many)
                self.assertEqual(told, (sorted(paper[:many]), paper[many], sorted(paper[many + 1:])))
            for reach in range(len(row)):
                try:
                    self.assertEqual(by_reach(Asker(row, rule), reach), paper)
                except TooFar as far:
                    self.assertEqual(len(far.others), reach + 1)

    def test_alike_things_keep_their_turn(self):
        for many in (2, 3, 12):
            for rule in (Rule(), UP, DOWN, KeyRule([]), NearRule(0, 300)):
                for name, way in WAYS.items():
                    self.assertEqual(way(Asker([(5,)] * many, rule)), list(range(many)), name)
            for name, way in WAYS.items():
                self.assertEqual(way(Asker(row_of(*range(many)), NearRule(0, 300))), list(range(many)), name)

    def test_three_hundred(self):
        for row in some_rows(300):
            paper = one_paper(row, UP)
            for name, way in WAYS.items():
                if name != "by_walking":
                    asker = Asker(row, UP)
                    self.assertEqual(way(asker), paper, name)
                    self.assertIs(shows(paper, asker.answers()), True, name)

    def test_the_hall_tells_it_too(self):
        for row, rule in self.orders((1, 6, 14)):
            for wide in (3, 60):
                self.assertEqual(Hall(wide).order(row, rule), one_paper(row, rule))

    def test_laid_by_it_the_row_is_in_order(self):
        for row, rule in self.orders((7,)):
            things = laid(row, by_pile(Asker(row, rule)))
            for one, other in itertools.combinations(range(len(things)), 2):
                self.assertFalse(rule.before(things[other], things[one]))


class Asks(HallCase):
    def test_only_the_later_place_is_asked_about_and_none_against_itself(self):
        for row, rule in rows_and_rules((9,), (UP, wild_rules()[2])):
            for name, way in WAYS.items():
                heard = []

                def teller(x, y):
                    heard.append((x, y))
                    return rule.before(x[1], y[1])

                asker = Asker(list(enumerate(row)), AskedRule(teller))
                way(asker)
                self.assertEqual([(x[0], y[0]) for x, y in heard], [answer[:2] for answer in asker.answers()], name)
                for later, earlier, said in asker.answers():
                    self.assertLess(earlier, later)

    def test_bounds(self):
        for row, rule in rows_and_rules((1, 2, 9, 40), order_rules() + wild_rules()):
            many = len(row)
            asker = Asker(row, rule)
            by_putting(asker)
            self.assertLessEqual(asker.asked, bounds.putting(many))
            asker = Asker(row, rule)
            singly = [[place] for place in range(many)]
            poured(asker, singly)
            self.assertLessEqual(asker.asked, bounds.poured(singly))
        for row, rule in rows_and_rules((1, 2, 9, 40, 100), order_rules() + wild_rules()[:5]):
            asker = Asker(row, rule)
            by_pile(asker)
            lengths = [beyond - first for first, beyond, falling in stretches(Asker(row, rule))]
            self.assertLessEqual(asker.asked, bounds.laid_pile(len(row), lengths))

    def test_whatever_a_rule_tells(self):
        for row, rule in rows_and_rules((1, 2, 9, 30), wild_rules(3)):
            for name, way in WAYS.items():
                if name not in ("by_reach", "joined_apart", "joined_apart, many"):
                    self.each_once(way(Asker(row, rule)), range(len(row)))


class SpentAndGivenMore(HallCase):
    def test_each_way(self):
        for row in some_rows(8)[1:4]:
            for rule in (UP, KeyRule([(2, "down"), (0, "up")])):
                for name, way in WAYS.items():
                    self.spent_and_widened(row, rule, way)

    def test_the_same_answers_for_rules_that_are_no_order(self):
        for row in some_rows(8)[1:4]:
            for rule in wild_rules()[:5]:
                for name in ("by_putting", "by_walking", "by_pile", "by_pieces", "joined", "poured", "in_rounds"):
                    self.spent_and_widened(row, rule, WAYS[name])

    def test_how_many_are_left_changes_nothing(self):
        for row, rule in rows_and_rules((9,), (UP, DOWN)):
            for name, way in WAYS.items():
                free = Asker(row, rule)
                way(free)
                for more in (0, 1, 1000):
                    asker = Asker(row, rule, free.asked + more)
                    way(asker)
                    self.assertEqual(asker.answers(), free.answers())
                asker = Asker(row, rule, 0)
                if free.asked:
                    self.assertRaises(Spent, way, asker)

    def test_what_was_asked_before_counts_on(self):
        row = row_of(4, 2, 3, 1)
        asker = Asker(row, UP)
        one = by_putting(asker)
        asked = asker.asked
        other = by_walking(asker)
        self.assertEqual(one, other)
        self.assertGreater(asker.asked, asked)
        self.assertEqual(len(asker.answers()), asker.asked)


class HandedInAndTold(HallCase):
    def test_nothing_handed_in_is_changed(self):
        row = row_of(4, 1, 3, 1, 5, 0)
        rule = UP
        left = [1, 2]
        right = [5, 3, 0, 4]
        pieces = [[1, 2], [5, 3], [], [0, 4]]
        answers = [(1, 0, True), (2, 1, False)]
        paper = [5, 1, 3, 2, 0, 4]
        handed = (row, left, right, pieces, answers, paper)
        kept = copy.deepcopy(handed)
        asker = Asker(row, rule)
        for call in (
            lambda: [way(asker) for way in WAYS.values()],
            lambda: joined(asker, left, right),
            lambda: joined_apart(asker, left, right, 3),
            lambda: [cut_of_two(asker, left, right, many) for many in range(7)],
            lambda: poured(asker, pieces),
            lambda: in_rounds(asker, pieces, 3),
            lambda: LastPour(asker, pieces).take(),
            lambda: spot_of(asker, left, 0),
            lambda: (laid(row, paper), back(paper), behind(paper, paper), is_paper(paper), agrees(paper, answers)),
            lambda: shows(paper, answers),
            lambda: ranked(row, rule),
            lambda: Hall(2).order(row, rule),
        ):
            call()
            self.assertEqual(handed, kept)

    def test_no_told_list_is_changed_later(self):
        row = row_of(4, 1, 3, 1, 5, 0)
        asker = Asker(row, UP)
        hall = Hall(2)
        pile = Pile(asker)
        pour = Pour(asker, [[1, 2], [0, 4]])
        pieces = [[1, 2]]
        told = []

        def ask_all():
            told.extend([asker.answers(), hall.notes(), pile.standing(), pile.paper(), stretches(asker)])
            told.extend([hall.order(row, UP), straight(4), ranked(row, UP), in_rounds(asker, pieces), filled(asker, 0, 3)])
            told.extend([way(asker) for way in WAYS.values()] + [so_manieth(asker, 2)])

        ask_all()
        kept = copy.deepcopy(told)
        for turn in range(3):
            pile.step()
            pour.take()
            before = len(told)
            ask_all()
            del told[before:]
        pieces[0].append(9)
        row.clear()
        self.assertEqual(told, kept)

    def test_told_lists_changed_change_nothing(self):
        row = row_of(4, 1, 3, 1, 5, 0)
        asker = Asker(row, UP)
        pile = Pile(asker, 2)
        while pile.step() is not None:
            pile.standing().clear()
            pile.paper().clear()
            asker.answers().clear()
        self.assertEqual(pile.paper(), one_paper(row, UP))
        self.assertEqual(len(asker.answers()), asker.asked)

    def test_objects_do_not_hold_on_to_lists(self):
        row = row_of(3, 1, 2)
        asker = Asker(row, UP)
        pieces = [[1], [0], [2]]
        pour = Pour(asker, pieces)
        last = LastPour(asker, pieces)
        pile = Pile(asker)
        row.reverse()
        for piece in pieces:
            piece.append(1)
        pieces.clear()
        self.assertEqual([pour.take() for turn in range(3)], [1, 2, 0])
        self.assertEqual([last.take() for turn in range(3)], [0, 2, 1])
        while pile.step() is not None:
            pass
        self.assertEqual(pile.paper(), [1, 2, 0])


class Refusals(HallCase):
    def test_each_a_class_of_its_own_under_hall_error(self):
        kinds = [value for value in vars(errors).values() if inspect.isclass(value)]
        self.assertEqual(len(kinds), 9)
        for kind in kinds:
            if kind is not errors.HallError:
                self.assertEqual(kind.__bases__, (errors.HallError,))


if __name__ == "__main__":
    unittest.main()
