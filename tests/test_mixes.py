import copy
import itertools
import random
import unittest
from fractions import Fraction

from desk_case import DeskCase, MOST, NO_FRACTIONS, pair, plain_weight, spoil
from limitdesk.corners import corners
from limitdesk.desks import desk_of
from limitdesk.errors import BadPoint
from limitdesk.judging import judged
from limitdesk.mixes import mix, told_as

LITTLE = Fraction(1, 10 ** 40)
TRIANGLE = [[(0, 1), (0, 1)], [(3, 1), (0, 1)], [(0, 1), (3, 1)]]
CUBE = [[(x, 1), (y, 1), (z, 1)] for x, y, z in itertools.product((-1, 1), repeat=3)]


def pairs(numbers):
    return [pair(number) for number in numbers]


def plain_mix(points, shares):
    return [sum(share * point[kind] for point, share in zip(points, shares)) for kind in range(len(points[0]))]


def points_by_chance(chance, count, kinds, most, lowest):
    """So many points as lists of fractions of Python, numbers up to most of either sign over numbers up to lowest."""
    return [[Fraction(chance.randint(-most, most), chance.randint(1, lowest)) for kind in range(kinds)]
            for place in range(count)]


def shares_by_chance(chance, count):
    """Shares that come to 1, some of them nought."""
    parts = [chance.choice((0, 1, chance.randint(1, 9))) for place in range(count)]
    parts[chance.randrange(count)] += 1
    return [Fraction(part, sum(parts)) for part in parts]


def lots_by_chance(seed, each, sizes):
    """Tuples of points and shares, for each number of points and of kinds."""
    chance = random.Random(seed)
    lots = []
    for count, kinds, (most, lowest) in itertools.product(range(1, 9), range(1, 5), sizes):
        for k in range(each):
            lots.append((points_by_chance(chance, count, kinds, most, lowest), shares_by_chance(chance, count)))
    return lots


class MixCase(DeskCase):
    def assert_told(self, points, point):
        """What told_as tells, by its marks; the kind of the answer."""
        before = copy.deepcopy((points, point))
        told = told_as(points, point)
        self.assertEqual((points, point), before)
        kinds = len(point)
        kind = self.told_kind(told, {"mix": 2, "split": 3})
        if kind == "mix":
            shares = self.plain_list(told[1], len(points))
            self.assertTrue(all(share >= 0 for share in shares), (points, point, told))
            self.assertEqual(sum(shares), 1, (points, point, told))
            plain_points = [self.plain_list(each, kinds) for each in points]
            self.assertEqual(plain_mix(plain_points, shares), self.plain_list(point, kinds), (points, point, told))
            self.assertEqual(mix(points, told[1]), point)
            return kind
        weights = self.plain_list(told[1], kinds)
        bound = self.plain(told[2])
        for each in points:
            self.assertLessEqual(plain_weight(weights, self.plain_list(each, kinds)), bound, (points, point, told))
        self.assertGreater(plain_weight(weights, self.plain_list(point, kinds)), bound, (points, point, told))
        return kind


class Mix(MixCase):
    def assert_mix(self, points, shares):
        handed = [pairs(point) for point in points], pairs(shares)
        before = copy.deepcopy(handed)
        told = mix(*handed)
        self.assertEqual(handed, before)
        self.assertEqual(self.plain_list(told, len(points[0])), plain_mix(points, shares))

    def test_written_out(self):
        self.assertEqual(mix(TRIANGLE, [(1, 3), (1, 3), (1, 3)]), [(1, 1), (1, 1)])
        self.assertEqual(mix(TRIANGLE, [(0, 1), (1, 2), (1, 2)]), [(3, 2), (3, 2)])
        self.assertEqual(mix(TRIANGLE, [(1, 6), (1, 2), (1, 3)]), [(3, 2), (1, 1)])
        self.assertEqual(mix(TRIANGLE, [(0, 1), (0, 1), (1, 1)]), [(0, 1), (3, 1)])
        self.assertEqual(mix([[(-7, 3)]], [(1, 1)]), [(-7, 3)])
        self.assertEqual(mix([[(1, 2)], [(-1, 3)]], [(2, 5), (3, 5)]), [(0, 1)])
        self.assertEqual(mix(CUBE, [(1, 8)] * 8), [(0, 1)] * 3)

    def test_each_number_of_points_and_kinds(self):
        for points, shares in lots_by_chance(121, 5, ((3, 1), (9, 9), (MOST, MOST), (10 ** 40, 10 ** 40))):
            self.assert_mix(points, shares)

    def test_some_more_points_and_kinds(self):
        chance = random.Random(122)
        for count, kinds in ((9, 4), (12, 5), (1, 6)):
            self.assert_mix(points_by_chance(chance, count, kinds, 99, 9), shares_by_chance(chance, count))

    def test_the_list_is_a_new_one(self):
        for points, shares in (([[(1, 2), (3, 1)]], [(1, 1)]), (TRIANGLE, [(0, 1), (1, 1), (0, 1)])):
            before = copy.deepcopy((points, shares))
            spoil(mix(points, shares))
            self.assertEqual((points, shares), before)
            self.assertEqual(mix(points, shares), points[shares.index((1, 1))])


class ToldAs(MixCase):
    def assert_mixed(self, points, point):
        self.assertEqual(self.assert_told(points, point), "mix", (points, point))

    def assert_split(self, points, point):
        self.assertEqual(self.assert_told(points, point), "split", (points, point))

    def test_one_point(self):
        for kinds in range(1, 5):
            for amount in ((0, 1), (5, 1), (-7, 3), (10 ** 40, 3)):
                point = [amount] * kinds
                self.assertEqual(told_as([point], list(point)), ("mix", [(1, 1)]))
                self.assert_mixed([point], point)
                for kind, step in itertools.product(range(kinds), (1, -1, LITTLE, -LITTLE)):
                    other = list(point)
                    other[kind] = pair(Fraction(*amount) + step)
                    self.assert_split([point], other)

    def test_one_kind(self):
        points = [[(1, 2)], [(-2, 3)], [(0, 1)], [(1, 3)]]
        for amount in (Fraction(1, 2), Fraction(-2, 3), Fraction(0), Fraction(2, 5), Fraction(1, 2) - LITTLE):
            self.assert_mixed(points, [pair(amount)])
        for amount in (Fraction(1, 2) + LITTLE, Fraction(-2, 3) - LITTLE, Fraction(9), Fraction(-9)):
            self.assert_split(points, [pair(amount)])

    def test_a_triangle(self):
        self.assertEqual(told_as(TRIANGLE, [(1, 1), (1, 1)]), ("mix", [(1, 3), (1, 3), (1, 3)]))
        self.assertEqual(told_as(TRIANGLE, [(3, 2), (3, 2)]), ("mix", [(0, 1), (1, 2), (1, 2)]))
        self.assertEqual(told_as(TRIANGLE, [(3, 2), (1, 1)]), ("mix", [(1, 6), (1, 2), (1, 3)]))
        self.assertEqual(told_as(TRIANGLE, [(3, 1), (0, 1)]), ("mix", [(0, 1), (1, 1), (0, 1)]))
        for x, y in itertools.product([Fraction(k, 2) for k in range(-1, 8)], repeat=2):
            inside = x >= 0 and y >= 0 and x + y <= 3
            self.assertEqual(self.assert_told(TRIANGLE, pairs((x, y))), "mix" if inside else "split")

    def test_the_eight_corners_of_a_cube(self):
        for point in itertools.product((Fraction(0), Fraction(1), Fraction(-1), Fraction(1, 3)), repeat=3):
            self.assert_mixed(CUBE, pairs(point))
            for kind in range(3):
                beyond = list(point)
                beyond[kind] = Fraction(1) + LITTLE
                self.assert_split(CUBE, pairs(beyond))
        for place in range(8):
            self.assert_split(CUBE[:place] + CUBE[place + 1:], CUBE[place])

    def test_four_kinds(self):
        ends = [[(0, 1)] * kind + [(sign, 1)] + [(0, 1)] * (3 - kind) for kind in range(4) for sign in (-1, 1)]
        for signs in itertools.product((-1, 1), repeat=4):
            point = [Fraction(sign, 4) for sign in signs]
            self.assert_mixed(ends, pairs(point))
            point[0] += signs[0] * LITTLE
            self.assert_split(ends, pairs(point))

    def test_points_that_lie_in_less_than_the_kinds(self):
        # On a line, on a plane, all the same.
        for kinds in range(2, 5):
            line = [pairs([Fraction(k, 3)] * kinds) for k in (-2, 0, 1, 5)]
            self.assert_mixed(line, [(1, 7)] * kinds)
            self.assert_mixed(line, [(5, 3)] * kinds)
            self.assert_split(line, [(2, 1)] * kinds)
            self.assert_split(line, [(1, 7)] * (kinds - 1) + [pair(Fraction(1, 7) + LITTLE)])
            same = [[(1, 3)] * kinds] * 8
            self.assert_mixed(same, [(1, 3)] * kinds)
            self.assert_split(same, [(1, 3)] * (kinds - 1) + [(1, 2)])
        plane = [point + [(5, 1)] for point in TRIANGLE]
        self.assert_mixed(plane, [(1, 1), (1, 2), (5, 1)])
        self.assert_split(plane, [(1, 1), (1, 2), pair(5 - LITTLE)])
        self.assert_split(plane, [(2, 1), (2, 1), (5, 1)])

    def test_mixes_of_each_number_of_points_and_kinds(self):
        for points, shares in lots_by_chance(123, 4, ((2, 1), (5, 3), (MOST, MOST))):
            self.assert_mixed([pairs(point) for point in points], pairs(plain_mix(points, shares)))
            self.assert_mixed([pairs(point) for point in points], pairs(points[-1]))

    def test_any_point_for_each_number_of_points_and_kinds(self):
        chance = random.Random(124)
        counts = {"mix": 0, "split": 0}
        for points, shares in lots_by_chance(125, 4, ((1, 1), (5, 3), (MOST, MOST))):
            near = plain_mix(points, shares)
            for point in (near, chance.choice(points), [Fraction(0)] * len(near)):
                kind = chance.randrange(len(near))
                step = chance.choice((1, -1, LITTLE, -LITTLE, Fraction(1, 7)))
                moved = [amount + step * (k == kind) for k, amount in enumerate(point)]
                counts[self.assert_told([pairs(each) for each in points], pairs(moved))] += 1
        self.assertGreater(min(counts.values()), 200)

    def test_beyond_the_greatest_amount_there_is_a_split(self):
        for points, shares in lots_by_chance(126, 2, ((3, 2), (MOST, MOST))):
            for kind in range(len(points[0])):
                point = plain_mix(points, shares)
                point[kind] = max(each[kind] for each in points) + LITTLE
                self.assert_split([pairs(each) for each in points], pairs(point))

    def test_an_answer_comes_for_numbers_of_many_figures(self):
        for points, shares in lots_by_chance(127, 1, ((10 ** 100, 10 ** 100),))[-8:]:
            point = plain_mix(points, shares)
            with self.seconds(10):
                self.assert_mixed([pairs(each) for each in points], pairs(point))
                point[0] += LITTLE
                self.assert_told([pairs(each) for each in points], pairs(point))

    def test_points_that_were_told(self):
        desk = desk_of(2, [([1, 3], 7), ([-2, 1], 5), ([1, -4], 3), ([-1, -1], 2)])
        points = corners(desk)
        self.assertEqual(len(points), 4)
        self.assert_mixed(points, judged(desk)[1])
        self.assert_mixed(points, mix(points, [(1, 4)] * 4))
        self.assert_split(points, [(100, 1), (0, 1)])

    def test_lists_that_were_told_are_the_caller_s_own(self):
        points = copy.deepcopy(TRIANGLE)
        for point in ([(1, 1), (1, 1)], [(2, 1), (2, 1)], [(0, 1), (0, 1)]):
            kind = self.assert_told(points, point)
            spoil(told_as(points, point))
            self.assertEqual(points, TRIANGLE)
            self.assertEqual(self.assert_told(points, point), kind)


class Refused(MixCase):
    def assert_bad(self, points, point):
        self.assert_refused(BadPoint, told_as, points, point)

    def test_points(self):
        right = [[(1, 2), (0, 1)], [(5, 1), (-3, 1)]]
        for points in (
            tuple(right), [], (), None, True, 1, 0, "", "ab", {}, {0: right[0]}, range(2), iter(right), object(), 1.5,
            b"ab", [None], [()], [[]], [[], []], right[0], [right], [tuple(point) for point in right], [right[0], None],
            [right[0], ()], [right[0], tuple(right[1])], [right[0], right[1][0]], ["ab", "cd"], [True], [{}, {}],
        ):
            for point in ([(1, 1), (1, 1)], [(1, 2), (0, 1)], [], [(1, 1)], None):
                self.assert_bad(points, point)

    def test_more_than_eight_points(self):
        for kinds in range(1, 5):
            point = [(1, 1)] * kinds
            for count in range(1, 9):
                self.assertEqual(self.assert_told([point] * count, point), "mix")
            for count in (0, 9, 10, 100):
                self.assert_bad([point] * count, point)

    def test_more_than_four_kinds(self):
        for kinds in (0, 5, 6, 50):
            for count in (1, 2, 8):
                self.assert_bad([[(1, 1)] * kinds] * count, [(1, 1)] * kinds)

    def test_unlike_many_kinds(self):
        for lengths in itertools.product(range(6), repeat=3):
            points = [[(1, 1)] * length for length in lengths[:2]]
            point = [(1, 1)] * lengths[2]
            if len(set(lengths)) == 1 and 1 <= lengths[0] <= 4:
                self.assertEqual(self.assert_told(points, point), "mix")
            else:
                self.assert_bad(points, point)
        for place in range(8):
            points = [[(1, 1)] * 3] * 8
            for length in (2, 4):
                points[place] = [(1, 1)] * length
                self.assert_bad(points, [(1, 1)] * 3)
                self.assert_bad(points, [(1, 1)] * length)

    def test_the_point(self):
        for point in (
            None, True, 0, 2, "", "ab", (), [], ((0, 1), (0, 1)), [(0, 1)], [(0, 1)] * 3, {}, {0: (0, 1), 1: (0, 1)},
            object(), range(2), iter([(0, 1), (0, 1)]), 1.5, b"ab", [[(0, 1), (0, 1)]], (0, 1),
        ):
            self.assert_bad(TRIANGLE, point)

    def test_amounts(self):
        for amount in NO_FRACTIONS:
            self.assert_bad([[amount]], [(1, 1)])
            self.assert_bad([[(1, 1)]], [amount])
            for kind in range(2):
                bad = [(0, 1), (0, 1)]
                bad[kind] = amount
                self.assert_bad(TRIANGLE, bad)
                for place in range(3):
                    self.assert_bad(TRIANGLE[:place] + [bad] + TRIANGLE[place + 1:], [(0, 1), (0, 1)])
                    self.assert_bad(TRIANGLE[:place] + [bad] + TRIANGLE[place + 1:], None)

    def test_what_was_refused_is_as_before(self):
        points = [[(1, 2), (2, 4)], [True, (1, 1)]]
        point = [(0, 1), False]
        self.assert_bad(points, point)
        self.assertEqual(repr((points, point)), "([[(1, 2), (2, 4)], [True, (1, 1)]], [(0, 1), False])")


if __name__ == "__main__":
    unittest.main()
