import collections
import itertools
import random
import unittest

from desk_case import (
    DeskCase, MOST, all_desks, desks_by_chance, desks_of_few_numbers, least_clashes, made, rows_by_chance, spoil,
)
from limitdesk.dropping import dropped
from limitdesk.errors import TooMany
from limitdesk.limits import lean
from limitdesk.wholes import whole_points


def box(*ends):
    """Rows by which each amount, taken as often as told, lies between two whole numbers."""
    rows = []
    for kind, (often, least, greatest) in enumerate(ends):
        row = [often if k == kind else 0 for k in range(len(ends))]
        rows.extend(([-number for number in row] + [-least], row + [greatest]))
    return rows


def boxed(*ends):
    return made(len(ends), box(*ends))


def cut_boxes(seed, each):
    """Boxes of every number of kinds that make up about 400 points or fewer, cut by every number of limits."""
    chance = random.Random(seed)
    desks = []
    for kinds in range(1, 5):
        longest = (0, 500, 22, 8, 5)[kinds]
        for count in list(range(11 - 2 * kinds)) * each:
            ends = []
            for kind in range(kinds):
                often = chance.randint(1, 3)
                least = chance.randint(-9, 9)
                ends.append((often, least, least + chance.randint(0, often * longest)))
            rows = box(*ends)
            for weights in rows_by_chance(chance, count, kinds, 3):
                middle = sum(w * (side[1] + side[2]) // (2 * side[0]) for w, side in zip(weights, ends))
                rows.insert(chance.randint(0, len(rows)), weights + [middle + chance.randint(-1, 4)])
            desks.append(made(kinds, rows))
    return desks


class Told(DeskCase):
    def test_written_out(self):
        self.assertEqual(whole_points(boxed((1, -2, 1))), [[-2], [-1], [0], [1]])
        self.assertEqual(whole_points(boxed((1, 0, 1), (1, -1, 0))), [[0, -1], [0, 0], [1, -1], [1, 0]])
        self.assertEqual(whole_points(made(2, [[-1, 0, 0], [0, -1, 0], [2, 3, 6]])),
                         [[0, 0], [0, 1], [0, 2], [1, 0], [1, 1], [2, 0], [3, 0]])
        self.assertEqual(whole_points(boxed((1, 5, 5), (1, -7, -7), (1, 0, 0), (1, 9, 9))), [[5, -7, 0, 9]])
        signs = itertools.product((-1, 0, 1), repeat=3)
        self.assertEqual(whole_points(boxed((1, -1, 1), (1, -1, 1), (1, -1, 1))), [list(point) for point in signs])

    def test_ends_that_are_not_whole(self):
        self.assertEqual(whole_points(boxed((2, -3, 3))), [[-1], [0], [1]])
        self.assertEqual(whole_points(boxed((3, -7, -2))), [[-2], [-1]])
        self.assertEqual(whole_points(boxed((3, 2, 7))), [[1], [2]])
        self.assertEqual(whole_points(boxed((3, -6, -3))), [[-2], [-1]])
        self.assertEqual(whole_points(boxed((3, -1, 1))), [[0]])
        self.assertEqual(whole_points(boxed((3, 1, 2))), [])
        self.assertEqual(whole_points(boxed((3, -2, -1))), [])
        self.assertEqual(whole_points(boxed((2, 7, 7))), [])
        self.assertEqual(whole_points(boxed((2, 1, 1), (1, 0, 3))), [])
        self.assertEqual(whole_points(boxed((2, 2, 3), (3, 4, 8))), [[1, 2]])

    def test_no_whole_point_though_the_stretches_have_whole_numbers(self):
        self.assertEqual(whole_points(made(2, [[2, 2, 1], [-2, -2, -1], [-1, 0, 0], [0, -1, 1]])), [])
        self.assertEqual(whole_points(made(2, [[3, 6, 4], [-3, -6, -4], [1, 0, 9], [-1, 0, 9]])), [])

    def test_a_desk_without_a_point_has_none(self):
        for desk in least_clashes():
            self.assertEqual(whole_points(desk), [])
            self.assertEqual(self.assert_whole_points(desk), 0)
        # Whether or not the other kinds have ends.
        self.assertEqual(whole_points(made(2, [[1, 0, 0], [-1, 0, -1]])), [])
        self.assertEqual(whole_points(made(4, [[0, 0, 0, 0, -1]])), [])
        self.assertEqual(whole_points(made(2, box((1, 0, MOST), (1, 0, MOST)) + [[1, 1, -1]])), [])

    def test_great_numbers(self):
        self.assertEqual(whole_points(boxed((1, MOST - 2, MOST))), [[MOST - 2], [MOST - 1], [MOST]])
        self.assertEqual(whole_points(boxed((1, -MOST, 1 - MOST), (1, MOST, MOST))), [[-MOST, MOST], [1 - MOST, MOST]])
        great = 10 ** 60
        limits = (((great,), great * great + great), ((-great,), 1 - great * great))
        self.assertEqual(whole_points((1, limits)), [[great], [great + 1]])

    def test_a_point_of_the_desk_by_very_little(self):
        for bound, wanted in ((MOST - 1, [[0]]), (MOST, [[0], [1]])):
            self.assertEqual(whole_points(made(1, [[MOST, bound], [-1, 0]])), wanted)
        rows = box((1, 0, 1), (1, 0, 1))
        for bound, count in ((MOST - 1, 1), (MOST, 3)):
            self.assertEqual(len(whole_points(made(2, rows + [[MOST, MOST, bound]]))), count)

    def test_desks_of_few_numbers(self):
        counts = collections.Counter(self.assert_whole_points(desk) for desk in desks_of_few_numbers())
        self.assertGreater(min(counts[count] for count in (None, 0, 1, 3)), 5)

    def test_boxes_that_are_cut(self):
        counts = collections.Counter(self.assert_whole_points(desk) for desk in cut_boxes(111, 12))
        self.assertGreater(counts[None], 5)
        self.assertGreater(counts[0], 5)
        self.assertGreater(len(counts), 50)

    def test_desks_by_chance(self):
        counts = collections.Counter()
        for most, bounds in ((1, (0, 2)), (2, (0, 5)), (3, (-1, 9)), (MOST, (0, MOST))):
            counts.update(self.assert_whole_points(desk) for desk in desks_by_chance(112, 2, most, bounds))
        self.assertGreater(counts[None], 50)
        self.assertGreater(sum(counts[count] for count in counts if count), 30)

    def test_desks_of_all_sorts(self):
        for desk in all_desks()[::5]:
            self.assert_whole_points(desk)

    def test_the_order_of_the_limits_does_not_matter(self):
        chance = random.Random(113)
        for desk in cut_boxes(114, 2):
            count = self.assert_whole_points(desk)
            limits = list(desk[1])
            chance.shuffle(limits)
            if count is not None:
                self.assertEqual(whole_points((desk[0], tuple(limits))), whole_points(desk))

    def test_desks_that_were_told(self):
        counts = collections.Counter()
        for desk in cut_boxes(115, 2):
            counts[self.assert_whole_points(lean(desk))] += 1
            if desk[0] > 1:
                counts[self.assert_whole_points(dropped(desk, desk[0] // 2))] += 1
        self.assertGreater(len(counts), 20)

    def test_lists_that_were_told_are_the_caller_s_own(self):
        for desk in (boxed((1, 0, 3)), boxed((1, 0, 1), (2, 1, 5)), boxed((2, 1, 1)), made(1, [[0, -1]])):
            spoil(whole_points(desk))
            self.assert_whole_points(desk)


class TooManyOnes(DeskCase):
    def assert_count(self, desk, count):
        self.assertEqual(self.assert_whole_points(desk), count)
        self.assertEqual(len(whole_points(desk)), count)

    def assert_too_many(self, desk):
        self.assert_refused(TooMany, whole_points, desk)
        self.assertIsNone(self.assert_whole_points(desk))

    def test_four_hundred(self):
        for sides in ((400,), (20, 20), (400, 1), (1, 400), (8, 5, 10), (100, 1, 4), (4, 4, 5, 5), (1, 1, 1, 400)):
            self.assert_count(boxed(*[(1, -3, side - 4) for side in sides]), 400)

    def test_more_than_four_hundred(self):
        for sides in ((401,), (20, 21), (401, 1), (1, 401), (8, 6, 10), (1, 1, 401), (5, 9, 9), (4, 4, 5, 6),
                      (401, 1, 1, 1), (3, 3, 5, 9), (MOST,), (MOST, MOST), (MOST,) * 4):
            self.assert_too_many(boxed(*[(1, -3, side - 4) for side in sides]))

    def test_the_whole_numbers_in_the_stretches_count_alone(self):
        self.assert_count(boxed((2, -1, 799)), 400)
        self.assert_count(boxed((3, -2, 1199)), 400)
        self.assert_too_many(boxed((2, -1, 800)))
        self.assert_too_many(boxed((2, -2, 799)))
        self.assert_count(boxed((3, -2, 59), (3, -2, 59)), 400)
        self.assert_too_many(boxed((3, -2, 60), (3, -2, 59)))

    def test_those_that_are_no_points_count_too(self):
        line = [[1, -1, 0], [-1, 1, 0]]
        self.assert_count(made(2, line + [[1, 0, 19], [0, -1, 0]]), 20)
        self.assert_too_many(made(2, line + [[1, 0, 20], [0, -1, 0]]))
        half = [[2, -2, 1], [-2, 2, -1]]
        self.assert_count(made(2, half + [[2, 0, 39], [0, -1, 0]]), 0)
        self.assert_too_many(made(2, half + [[2, 0, 42], [0, -1, 0]]))

    def test_a_stretch_without_whole_numbers(self):
        # However many there are in the others: together they make up no point.
        for count in (401, MOST):
            for kinds in range(2, 5):
                for place in range(kinds):
                    ends = [(1, 0, count)] * kinds
                    ends[place] = (2, 5, 5)
                    with self.seconds(2):
                        self.assert_count(boxed(*ends), 0)

    def test_a_stretch_without_an_end(self):
        for kinds in range(1, 5):
            self.assert_too_many(made(kinds, []))
            rows = box(*[(1, 0, 1)] * kinds)
            for place in range(2 * kinds):
                self.assert_too_many(made(kinds, rows[:place] + rows[place + 1:]))
        self.assert_too_many(made(2, [[1, 1, 0], [-1, -1, 0]]))
        self.assert_too_many(made(1, [[0, 0]]))

    def test_a_stretch_without_an_end_beside_one_without_whole_numbers(self):
        for row in ([1, 0, 0], [-1, 0, 0]):
            self.assert_too_many(made(2, box((1, 0, 9), (2, 1, 1))[2:] + [row]))
        self.assert_too_many(made(2, [[2, 0, 1], [-2, 0, -1]]))
        self.assert_too_many(made(2, [[0, 2, 1], [0, -2, -1]]))

    def test_a_stretch_without_an_end_though_there_are_few_whole_points(self):
        # The whole points of 2x = 3y + 1 with x from 0 to 2 are one, but no limit bounds the third kind.
        self.assert_too_many(made(3, [[2, -3, 0, 1], [-2, 3, 0, -1], [1, 0, 0, 2], [-1, 0, 0, 0]]))


if __name__ == "__main__":
    unittest.main()
