import collections
import itertools
import random
import unittest

from desk_case import (
    DeskCase, MOST, desks_beyond, desks_by_chance, desks_of_few_numbers, desks_through_a_point, least_clashes, made,
    rows_by_chance, spoil,
)
from limitdesk.corners import corners
from limitdesk.dropping import dropped
from limitdesk.errors import TooMany

SQUARE = made(2, [[1, 0, 3], [-1, 0, 2], [0, 2, 5], [0, -3, 1]])
CUBE = made(3, [[1, 0, 0, 1], [-1, 0, 0, 1], [0, 1, 0, 1], [0, -1, 0, 1], [0, 0, 1, 1], [0, 0, -1, 1]])
SIGNS = list(itertools.product((-1, 1), repeat=3))


def told_by_dropped(count):
    """Desks of three kinds and so many limits that dropped told, and that have corners by chance."""
    chance = random.Random(91)
    desks = []
    while len(desks) < 4:
        most = chance.choice((9, MOST))
        rows = [row[:-1] + [chance.randint(1, most)] for row in rows_by_chance(chance, 10, 5, most)]
        told = dropped(made(4, rows), chance.randrange(4))
        if len(told[1]) == count:
            desks.append(told)
    return desks


class Corners(DeskCase):
    def test_written_out(self):
        self.assertEqual(
            corners(SQUARE), [[(-2, 1), (-1, 3)], [(-2, 1), (5, 2)], [(3, 1), (-1, 3)], [(3, 1), (5, 2)]])
        self.assertEqual(corners(CUBE), [[(x, 1), (y, 1), (z, 1)] for x, y, z in SIGNS])
        self.assertEqual(corners(made(1, [[3, 7], [-2, -4]])), [[(2, 1)], [(7, 3)]])
        self.assertEqual(corners(made(1, [[3, 7], [1, 2]])), [[(2, 1)]])
        self.assertEqual(corners(made(1, [[3, 7], [-3, -7]])), [[(7, 3)]])

    def test_rising_by_the_first_amount_then_the_next(self):
        # Halves, thirds and numbers below nought, not in the order of their upper or lower numbers.
        desk = made(2, [[6, 0, 3], [-6, 0, 4], [0, 6, -2], [0, -6, 3]])
        self.assertEqual(
            corners(desk), [[(-2, 3), (-1, 2)], [(-2, 3), (-1, 3)], [(1, 2), (-1, 2)], [(1, 2), (-1, 3)]])
        turned = made(2, [[6, 0, 3], [0, -6, 3], [0, 6, -2], [-6, 0, 4]])
        self.assertEqual(corners(turned), corners(desk))

    def test_no_corner(self):
        for kinds in range(1, 4):
            self.assertEqual(corners(made(kinds, [])), [])
            self.assertEqual(corners(made(kinds, [[0] * kinds + [0]] * 10)), [])
        for kinds in (2, 3):
            row = list(range(1, kinds + 1))
            turned = [-number for number in row]
            self.assertEqual(corners(made(kinds, [row + [5]])), [])
            self.assertEqual(corners(made(kinds, [row + [5], turned + [5], row + [4], turned + [-4]])), [])
        # All limits run along one line, so whatever lies within them has no end there.
        self.assertEqual(corners(made(3, [[1, 0, -1, 2], [0, 1, 1, 2], [-1, -1, 0, 1], [1, 1, 0, 3]])), [])

    def test_no_point(self):
        self.assertEqual(corners(made(1, [[1, 1], [-1, -2]])), [])
        self.assertEqual(corners(made(2, [[1, 0, 0], [0, 1, 0], [-1, -1, -1]])), [])
        for desk in least_clashes():
            if desk[0] < 4:
                self.assertEqual(self.assert_corners(desk), 0)
                box = tuple((tuple(s * (k == kind) for k in range(desk[0])), 9)
                            for kind in range(desk[0]) for s in (-1, 1))
                self.assertEqual(self.assert_corners((desk[0], desk[1] + box)), 0)

    def test_more_limits_than_kinds_meet_in_a_point(self):
        # A tip over eight edges, and the eight sides and four more.
        sides = [[2, 1], [1, 2], [-1, 2], [-2, 1], [-2, -1], [-1, -2], [1, -2], [2, -1]]
        rows = [side + [1, 4] for side in sides] + [[0, 0, -1, 0]]
        self.assertEqual(self.assert_corners(made(3, rows)), 9)
        eight = made(3, [list(row) + [1] for row in SIGNS])
        self.assertEqual(self.assert_corners(eight), 6)
        for count in range(2, 11):
            self.assertEqual(corners(made(2, [[k, 1, 3 * k + 5] for k in range(count)])), [[(3, 1), (5, 1)]])
        for desk in desks_through_a_point(92, 5):
            if desk[0] < 4:
                self.assertLessEqual(self.assert_corners(desk), 1)

    def test_limits_that_are_the_same(self):
        for desk in (SQUARE, CUBE):
            for place in range(len(desk[1])):
                weights, bound = desk[1][place]
                twice = (tuple(2 * number for number in weights), 2 * bound)
                for more in ((desk[1][place],), (twice,), (twice, desk[1][place], twice)):
                    self.assertEqual(corners((desk[0], more + desk[1])), corners(desk))
                    self.assertEqual(corners((desk[0], desk[1] + more)), corners(desk))
        self.assertEqual(corners((2, SQUARE[1] * 3)), corners(SQUARE))
        self.assertEqual(corners((3, CUBE[1] * 2)), corners(CUBE))

    def test_limits_that_are_needless_and_just_there(self):
        # The first touches the square in a corner.
        self.assertEqual(corners((2, SQUARE[1] + (((1, 2), 8), ((0, 0), 0), ((0, 0), 3)))), corners(SQUARE))
        self.assertEqual(corners((2, SQUARE[1] + (((0, 0), -1),))), [])

    def test_a_desk_that_is_one_point(self):
        for kinds in range(1, 4):
            rows = [[int(k == kind) for k in range(kinds)] + [kind + 1] for kind in range(kinds)]
            turned = [[-number for number in row] for row in rows]
            self.assertEqual(corners(made(kinds, rows + turned)), [[(kind + 1, 1) for kind in range(kinds)]])

    def test_desks_of_few_numbers(self):
        counts = collections.Counter(self.assert_corners(desk) for desk in desks_of_few_numbers())
        self.assertGreater(min(counts[count] for count in range(4)), 20)

    def test_each_number_of_kinds_and_limits(self):
        counts = collections.Counter()
        for most, bounds in ((1, (0, 1)), (2, (-1, 3)), (9, (0, 9)), (9, None), (MOST, (0, MOST)), (MOST, None)):
            for desk in desks_by_chance(93, 2, most, bounds):
                counts[self.assert_corners(desk)] += 1
        self.assertGreater(min(counts[count] for count in (0, 1, 2, 3, 4, 5, 6)), 5)

    def test_the_order_of_the_limits_does_not_matter(self):
        chance = random.Random(94)
        for desk in desks_by_chance(95, 1, 3, (0, 3)):
            if desk[0] < 4:
                limits = list(desk[1])
                chance.shuffle(limits)
                self.assertEqual(corners((desk[0], tuple(limits))), corners(desk))

    def test_three_kinds_and_twelve_limits(self):
        for count in (11, 12):
            for desk in told_by_dropped(count):
                with self.seconds(5):
                    self.assertGreater(self.assert_corners(desk), 0)
        # A ball of twelve sides, each corner of which three of them share: twenty corners.
        sides = [side for t in (8, -8) for u in (5, -5) for side in ([0, t, u], [u, 0, t], [t, u, 0])]
        self.assertEqual(self.assert_corners((3, tuple((tuple(side), 10 ** 40) for side in sides))), 20)

    def test_more_than_desk_of_makes(self):
        for desk in desks_beyond():
            self.assert_corners(desk)

    def test_lists_that_were_told_are_the_caller_s_own(self):
        for desk in (SQUARE, CUBE, made(1, [[2, 1]]), made(2, [])):
            spoil(corners(desk))
            self.assert_corners(desk)


class Refused(DeskCase):
    def test_four_kinds(self):
        for count in range(11):
            self.assert_refused(TooMany, corners, made(4, [[k, 1, -k, 2, 5] for k in range(count)]))
        self.assert_refused(TooMany, corners, made(4, [[0, 0, 0, 0, -1]]))

    def test_thirteen_limits(self):
        for desk in told_by_dropped(13) + told_by_dropped(14):
            self.assert_refused(TooMany, corners, desk)
        for kinds in range(1, 5):
            for row in ([1], [0]):
                self.assert_refused(TooMany, corners, (kinds, ((tuple(row * kinds), -1),) * 13))


if __name__ == "__main__":
    unittest.main()
