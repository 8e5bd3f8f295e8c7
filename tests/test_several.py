import collections
import itertools
import random
import unittest

from desk_case import (
    DeskCase, MOST, all_desks, desks_beyond, desks_by_chance, desks_of_few_numbers, hard_desks, least_clashes, made,
    spoil,
)
from limitdesk.dropping import dropped
from limitdesk.errors import LimitError, Unlike
from limitdesk.goals import best, top
from limitdesk.judging import judged
from limitdesk.limits import lean
from limitdesk.several import outside, within

SQUARE = made(2, [[1, 0, 3], [-1, 0, 2], [0, 2, 5], [0, -3, 1]])
HALF = made(2, [[1, 1, 4]])
CLASH = made(2, [[1, 1, 1], [-1, -1, -2]])


def with_limit(desk, weights, bound):
    return (desk[0], desk[1] + ((tuple(weights), bound),))


def sum_of(desk, often):
    """The weights and the bound of the limits, each taken so often."""
    weights = [sum(s * limit[0][kind] for s, limit in zip(often, desk[1])) for kind in range(desk[0])]
    return weights, sum(s * limit[1] for s, limit in zip(often, desk[1]))


class Outside(DeskCase):
    def test_written_out(self):
        for one, other, lies in (
            (SQUARE, SQUARE, True), (HALF, HALF, True), (SQUARE, made(2, [[1, 0, 4], [2, 2, 11]]), True),
            (SQUARE, made(2, [[1, 0, 4], [2, 2, 10]]), False), (SQUARE, HALF, False), (HALF, SQUARE, False),
            (HALF, made(2, [[3, 3, 12]]), True), (HALF, made(2, [[3, 3, 11]]), False),
            (HALF, made(2, [[-1, -1, 10 ** 9]]), False), (HALF, made(2, [[1, 0, 10 ** 9]]), False),
            (made(1, [[3, 1], [-3, -1]]), made(1, [[6, 2], [-6, -2]]), True),
            (made(1, [[3, 1], [-3, -1]]), made(1, [[1, 0]]), False),
        ):
            with self.subTest(one=one, other=other):
                self.assertIs(self.assert_outside(one, other), lies)

    def test_no_limits(self):
        for kinds in range(1, 5):
            bare = made(kinds, [])
            self.assertTrue(self.assert_outside(bare, bare))
            for desk in least_clashes() + desks_by_chance(81, 1, 9):
                if desk[0] == kinds:
                    self.assertTrue(self.assert_outside(desk, bare))
            for kind, sign, bound in itertools.product(range(kinds), (-1, 1), (-MOST, 0, MOST)):
                row = [sign if k == kind else 0 for k in range(kinds)] + [bound]
                self.assertFalse(self.assert_outside(bare, made(kinds, [row])))
            self.assertTrue(self.assert_outside(bare, made(kinds, [[0] * kinds + [0], [0] * kinds + [1]])))
            self.assertFalse(self.assert_outside(bare, made(kinds, [[0] * kinds + [0], [0] * kinds + [-1]])))

    def test_one_without_a_point(self):
        for desk in [CLASH] + least_clashes():
            bare = made(desk[0], [])
            for other in (desk, bare, with_limit(bare, [1] * desk[0], -MOST), with_limit(bare, [0] * desk[0], -1)):
                self.assertTrue(self.assert_outside(desk, other))

    def test_other_without_a_point(self):
        for desk in [CLASH] + least_clashes():
            bare = made(desk[0], [])
            self.assertFalse(self.assert_outside(bare, desk))
            self.assertFalse(self.assert_outside(with_limit(bare, [2] * desk[0], -7), desk))

    def test_sums_of_the_one_s_limits(self):
        chance = random.Random(82)
        for desk in all_desks():
            other = made(desk[0], [])
            for more in (0, 0, 1, 10 ** 20):
                weights, bound = sum_of(desk, [chance.choice((0, 0, 1, 2, 7)) for limit in desk[1]])
                other = with_limit(other, weights, bound + more)
            self.assertTrue(self.assert_outside(desk, other))

    def test_a_limit_that_cuts_something_off(self):
        chance = random.Random(83)
        counts = collections.Counter()
        for desk in all_desks()[::2]:
            goal = [chance.randint(-3, 3) for kind in range(desk[0])]
            answer = best(desk, goal)
            counts[answer[0]] += 1
            if answer[0] == "best":
                worth = top(desk, goal)
                # The goal's weights so often that the best worth is a whole number, and one less.
                weights = [worth[1] * number for number in goal]
                self.assertTrue(self.assert_outside(desk, with_limit(desk, weights, worth[0])))
                self.assertFalse(self.assert_outside(desk, with_limit(desk, weights, worth[0] - 1)))
                self.assertTrue(self.assert_outside(with_limit(desk, weights, worth[0] - 1), desk))
            if answer[0] == "endless":
                for bound in (-MOST, 0, 10 ** 40):
                    self.assertFalse(self.assert_outside(desk, with_limit(desk, goal, bound)))
                    self.assertTrue(self.assert_outside(with_limit(desk, goal, bound), desk))
        self.assertGreater(min(counts["best"], counts["endless"], counts["clash"]), 50)

    def test_each_place_of_the_limit_that_cuts(self):
        for place in range(4):
            rows = [[1, 0, 3], [-1, 0, 2], [0, 2, 5], [0, -3, 1]]
            rows[place][-1] -= 1
            self.assertFalse(self.assert_outside(SQUARE, made(2, rows)))
            self.assertTrue(self.assert_outside(made(2, rows), SQUARE))

    def test_desks_of_few_numbers(self):
        desks = desks_of_few_numbers()[::41]
        counts = collections.Counter(self.assert_outside(*both) for both in itertools.product(desks, repeat=2))
        self.assertGreater(min(counts[True], counts[False]), 1000)

    def test_desks_by_chance(self):
        counts = collections.Counter()
        for most, bounds in ((2, (0, 3)), (9, (-2, 9)), (MOST, (0, MOST))):
            desks = desks_by_chance(84, 2, most, bounds)
            for one, other in zip(desks, desks[1:]):
                if one[0] == other[0]:
                    counts[self.assert_outside(one, other)] += 1
                    counts[self.assert_outside(other, one)] += 1
                    counts[self.assert_outside((one[0], one[1] + other[1]), one)] += 1
        self.assertGreater(min(counts[True], counts[False]), 100)

    def test_the_lean_desk_has_the_same_points(self):
        for desk in all_desks():
            told = lean(desk)
            self.assertTrue(self.assert_outside(desk, told))
            self.assertTrue(self.assert_outside(told, desk))

    def test_an_answer_comes_for_hard_desks(self):
        for one, other in zip(hard_desks(), hard_desks()[1:]):
            with self.seconds(10):
                self.assert_outside(one, other)

    def test_more_limits_and_greater_numbers(self):
        for one, other in zip(desks_beyond(), desks_beyond()[1:]):
            if one[0] == other[0]:
                self.assert_outside(one, other)
                self.assert_outside(other, one)

    def test_a_list_that_was_told_is_the_caller_s_own(self):
        for one, other in ((SQUARE, HALF), (HALF, SQUARE), (made(2, []), HALF)):
            spoil(outside(one, other))
            self.assertFalse(self.assert_outside(one, other))


class Refused(unittest.TestCase):
    def test_unlike_kinds(self):
        for error in (Unlike, LimitError, ValueError):
            for a, b in itertools.permutations(range(1, 5), 2):
                for row in ([], [1], [0]):
                    one = made(a, [row * a + [-1]] if row else [])
                    for other in (made(b, []), made(b, [[0] * b + [-1]]), made(b, [[1] * b + [5]])):
                        self.assertRaises(error, outside, one, other)
                        self.assertRaises(error, within, one, other)

    def test_a_desk_and_itself_without_a_kind(self):
        for desk in (SQUARE, HALF, CLASH):
            self.assertRaises(Unlike, outside, desk, dropped(desk, 0))
            self.assertRaises(Unlike, within, dropped(desk, 1), desk)
            self.assertEqual(judged(desk)[0] == "point", judged(dropped(desk, 0))[0] == "point")


if __name__ == "__main__":
    unittest.main()
