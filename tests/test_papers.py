"""Papers: points 16 to 19."""

import itertools
import unittest

from sorthall.errors import HallError, NoPaper
from sorthall.papers import agrees, back, behind, is_paper, laid, shows, straight
from support import HallCase

NO_PAPERS = [
    [1],
    [-1],
    [0, 0],
    [1, 1],
    [1, 2],
    [-1, 0],
    [0, 2],
    [0, 1, 1],
    [2, 1, 2],
    [0, 1, 3],
    [3, 1, 2],
    [-1, 0, 1],
    [0, -2, 1],
    [0, 1, 10 ** 60],
    [2, 0, 1, 2],
    [0, 1, 2, 3, 3, 5],
]


def papers(longest):
    return [list(paper) for many in range(longest + 1) for paper in itertools.permutations(range(many))]


def told_of(paper, pairs):
    """The answers about these pairs of places with which the paper agrees."""
    return [(later, earlier, paper.index(later) < paper.index(earlier)) for later, earlier in pairs]


def all_pairs(many):
    return [(later, earlier) for later in range(many) for earlier in range(later)]


class Straight(HallCase):
    def test_numbers_from_nought(self):
        for many in (0, 1, 2, 7, 300):
            told = straight(many)
            self.assertEqual(told, [place for place in range(many)])
            self.whole_list(told)

    def test_told_anew_each_time(self):
        told = straight(3)
        told.append(9)
        self.assertEqual(straight(3), [0, 1, 2])


class IsPaper(HallCase):
    def test_papers(self):
        for paper in papers(5) + [straight(300), straight(300)[::-1]]:
            self.assertIs(is_paper(paper), True, paper)

    def test_no_papers(self):
        for some in NO_PAPERS:
            self.assertIs(is_paper(some), False, some)

    def test_each_short_list(self):
        for many in range(5):
            for some in itertools.product(range(-1, many + 1), repeat=many):
                self.assertIs(is_paper(list(some)), set(some) == set(range(many)), some)

    def test_truths_are_no_whole_numbers(self):
        for some in ([False], [False, True], [True, 0], [0, True, 2]):
            self.assertIs(is_paper(some), False, some)

    def test_stays_as_it_is(self):
        some = [2, 0, 1]
        is_paper(some)
        self.assertEqual(some, [2, 0, 1])


class Laid(HallCase):
    def test_things_at_the_papers_places(self):
        self.assertEqual(laid([], []), [])
        self.assertEqual(laid(["a"], [0]), ["a"])
        self.assertEqual(laid(["a", "b", "c", "d"], [2, 0, 3, 1]), ["c", "a", "d", "b"])
        for paper in papers(5):
            row = [str(place) for place in range(len(paper))]
            self.assertEqual(laid(row, paper), [str(place) for place in paper])

    def test_things_as_they_are(self):
        row = [[1], [1], {}, None]
        for thing, place in zip(laid(row, [3, 1, 0, 2]), [3, 1, 0, 2], strict=True):
            self.assertIs(thing, row[place])

    def test_straight_it_is_a_copy(self):
        row = ["a", "b"]
        told = laid(row, [0, 1])
        told.append("c")
        self.assertEqual(row, ["a", "b"])

    def test_what_is_handed_in_stays(self):
        row = ["a", "b", "c"]
        paper = [1, 2, 0]
        laid(row, paper)
        self.assertEqual((row, paper), (["a", "b", "c"], [1, 2, 0]))


class Back(HallCase):
    def test_examples(self):
        self.assertEqual(back([]), [])
        self.assertEqual(back([0]), [0])
        self.assertEqual(back([1, 2, 0]), [2, 0, 1])
        self.assertEqual(back([3, 0, 2, 1]), [1, 3, 2, 0])

    def test_laid_and_laid_back(self):
        for paper in papers(5) + [[(7 * place) % 300 for place in range(300)]]:
            row = [str(place) for place in range(len(paper))]
            self.assertEqual(laid(laid(row, paper), back(paper)), row)
            self.assertEqual(laid(laid(row, back(paper)), paper), row)
            self.assertEqual(back(back(paper)), paper)
            self.whole_list(back(paper))

    def test_what_is_handed_in_stays_and_is_not_told(self):
        paper = [0, 1, 2]
        back(paper).append(3)
        self.assertEqual(paper, [0, 1, 2])


class Behind(HallCase):
    def test_examples(self):
        self.assertEqual(behind([], []), [])
        self.assertEqual(behind([0], [0]), [0])
        self.assertEqual(behind([1, 2, 0], [1, 0, 2]), [2, 1, 0])
        self.assertEqual(behind([1, 0, 2], [1, 2, 0]), [0, 2, 1])

    def test_laid_by_one_and_then_by_the_other(self):
        for first, second in itertools.product(papers(4), repeat=2):
            if len(first) == len(second):
                row = [str(place) for place in range(len(first))]
                told = behind(first, second)
                self.whole_list(told)
                self.assertEqual(laid(row, told), laid(laid(row, first), second))

    def test_behind_its_back(self):
        for paper in papers(5):
            self.assertEqual(behind(paper, back(paper)), straight(len(paper)))
            self.assertEqual(behind(back(paper), paper), straight(len(paper)))

    def test_what_is_handed_in_stays_and_is_not_told(self):
        first = [0, 1]
        second = [0, 1]
        behind(first, second).append(2)
        self.assertEqual((first, second), ([0, 1], [0, 1]))


class Refused(HallCase):
    def test_no_papers(self):
        for some in NO_PAPERS:
            kept = list(some)
            good = straight(len(some))
            for call in (
                lambda: laid(good, some),
                lambda: back(some),
                lambda: behind(some, good),
                lambda: behind(good, some),
                lambda: behind(some, some),
            ):
                with self.assertRaises(NoPaper) as taken:
                    call()
                self.assertIsInstance(taken.exception, HallError)
            self.assertEqual(some, kept)

    def test_unlike_lengths(self):
        for many, other in itertools.permutations((0, 1, 2, 5, 6), 2):
            self.assertRaises(NoPaper, laid, ["thing"] * many, straight(other))
            self.assertRaises(NoPaper, behind, straight(many), straight(other))

    def test_a_paper_too_long_whose_places_the_row_has(self):
        self.assertRaises(NoPaper, laid, ["a", "b"], [0, 1, 0])
        self.assertRaises(NoPaper, laid, ["a", "b", "c"], [1, 0])
        self.assertRaises(NoPaper, behind, [0, 1, 2], [1, 0])
        self.assertRaises(NoPaper, behind, [1, 0], [0, 1, 2])

    def test_truths(self):
        self.assertRaises(NoPaper, laid, ["a", "b"], [True, False])
        self.assertRaises(NoPaper, back, [False])


class Agrees(HallCase):
    def test_without_answers(self):
        for paper in papers(3):
            self.assertIs(agrees(paper, []), True)

    def test_each_answer_alone(self):
        for paper in papers(4):
            for later, earlier in all_pairs(len(paper)):
                ahead = paper.index(later) < paper.index(earlier)
                self.assertIs(agrees(paper, [(later, earlier, True)]), ahead)
                self.assertIs(agrees(paper, [(later, earlier, False)]), not ahead)

    def test_all_must_hold(self):
        for paper in papers(4):
            answers = told_of(paper, all_pairs(len(paper)))
            self.assertIs(agrees(paper, answers), True)
            self.assertIs(agrees(paper, answers + answers), True)
            for spot, (later, earlier, said) in enumerate(answers):
                wrong = list(answers)
                wrong[spot] = (later, earlier, not said)
                self.assertIs(agrees(paper, wrong), False)
                self.assertIs(agrees(paper, answers + [wrong[spot]]), False)
                self.assertIs(agrees(paper, [wrong[spot]] + answers), False)

    def test_what_is_handed_in_stays(self):
        paper = [1, 0, 2]
        answers = [(1, 0, True), (2, 0, False)]
        agrees(paper, answers)
        shows(paper, answers)
        self.assertEqual(paper, [1, 0, 2])
        self.assertEqual(answers, [(1, 0, True), (2, 0, False)])


class Shows(HallCase):
    def test_papers_without_neighbours(self):
        self.assertIs(shows([], []), True)
        self.assertIs(shows([0], []), True)
        self.assertIs(shows([0, 1], []), False)

    def test_neighbours_alone_are_enough(self):
        for paper in papers(5):
            pairs = [(max(pair), min(pair)) for pair in zip(paper, paper[1:])]
            self.assertIs(shows(paper, told_of(paper, pairs)), True)
            self.assertIs(shows(paper, told_of(paper, pairs[::-1] + pairs)), True)

    def test_one_pair_of_neighbours_lacks(self):
        for paper in papers(5):
            for spot in range(len(paper) - 1):
                lacking = {paper[spot], paper[spot + 1]}
                pairs = [pair for pair in all_pairs(len(paper)) if set(pair) != lacking]
                self.assertIs(agrees(paper, told_of(paper, pairs)), True)
                self.assertIs(shows(paper, told_of(paper, pairs)), False)

    def test_one_answer_fails(self):
        for paper in papers(4):
            answers = told_of(paper, all_pairs(len(paper)))
            for spot, (later, earlier, said) in enumerate(answers):
                self.assertIs(shows(paper, answers + [(later, earlier, not said)]), False)

    def test_just_where_no_other_paper_agrees(self):
        for many in range(5):
            pairs = all_pairs(many)
            for chosen in itertools.product((False, True), repeat=len(pairs)):
                paper = [3, 1, 0, 2] if many == 4 else straight(many)[::-1]
                answers = told_of(paper, [pair for pair, taken in zip(pairs, chosen, strict=True) if taken])
                others = [list(other) for other in itertools.permutations(range(many)) if agrees(list(other), answers)]
                self.assertIs(shows(paper, answers), others == [paper])


if __name__ == "__main__":
    unittest.main()
