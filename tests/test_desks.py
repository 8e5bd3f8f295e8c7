import copy
import itertools
import unittest
from fractions import Fraction

from desk_case import MOST, NO_FRACTIONS
from limitdesk.desks import broken, desk_of, just, weight
from limitdesk.errors import BadPoint, NoDesk


def plain_weight(weights, point):
    return sum((n * Fraction(a[0], a[1]) for n, a in zip(weights, point)), Fraction(0))


def pairs_of(amounts):
    return [(f.numerator, f.denominator) for f in amounts]


class Made(unittest.TestCase):
    def assert_made(self, kinds, limits):
        before = copy.deepcopy(limits)
        desk = desk_of(kinds, limits)
        self.assertEqual(limits, before)
        self.assertEqual(desk, (kinds, tuple((tuple(weights), bound) for weights, bound in limits)))
        self.assertIs(type(desk), tuple)
        self.assertIs(type(desk[1]), tuple)
        for limit in desk[1]:
            self.assertIs(type(limit), tuple)
            self.assertIs(type(limit[0]), tuple)

    def test_written_out(self):
        self.assertEqual(desk_of(2, [([1, -1], 3), ([0, 4], -5)]), (2, (((1, -1), 3), ((0, 4), -5))))
        self.assertEqual(desk_of(1, []), (1, ()))
        self.assertEqual(desk_of(1, [([0], 0)]), (1, (((0,), 0),)))

    def test_each_number_of_kinds_and_limits(self):
        for kinds in range(1, 5):
            for count in range(11):
                limits = [([place - kind for kind in range(kinds)], 5 - place) for place in range(count)]
                with self.subTest(kinds=kinds, count=count):
                    self.assert_made(kinds, limits)

    def test_limits_alike_stay_each_in_its_place(self):
        self.assert_made(2, [([1, 1], 1), ([0, 0], 0), ([1, 1], 1)])

    def test_numbers_of_twelve_figures(self):
        for number in (MOST, -MOST):
            self.assert_made(1, [([number], 0)])
            self.assert_made(1, [([0], number)])
            self.assert_made(4, [([number] * 4, number)] * 10)

    def test_what_is_done_later_to_the_lists_is_not_seen(self):
        weights = [1, 2]
        limits = [(weights, 3)]
        desk = desk_of(2, limits)
        weights[0] = 9
        limits.append(([5, 5], 5))
        self.assertEqual(desk, (2, (((1, 2), 3),)))


class Refused(unittest.TestCase):
    def assert_refused(self, kinds, limits):
        with self.subTest(kinds=kinds, limits=limits):
            self.assertRaises(NoDesk, desk_of, kinds, limits)

    def test_kinds(self):
        for kinds in (0, 5, 6, -1, -4, 10 ** 30, True, False, "2", "", None, 2.0, [2], (2,), {}, object()):
            self.assert_refused(kinds, [])
            self.assert_refused(kinds, [([1], 1)])
        self.assert_refused(5, [([1] * 5, 1)])
        self.assert_refused(0, [([], 1)])

    def test_limits(self):
        for limits in (
            None, (), (([1], 1),), "", "ab", 0, 3, True, False, {}, {0: ([1], 1)}, {1}, range(0), object(),
            iter([([1], 1)]), 1.5, b"",
        ):
            self.assert_refused(1, limits)

    def test_more_than_ten_limits(self):
        self.assertEqual(len(desk_of(1, [([1], 1)] * 10)[1]), 10)
        self.assert_refused(1, [([1], 1)] * 11)
        self.assert_refused(4, [([1] * 4, 1)] * 12)

    def test_one_limit(self):
        good = ([1, 1], 1)
        for limit in (
            [[1, 1], 1], (), ([1, 1],), ([1, 1], 1, 1), ([1, 1], 1, None), (1, [1, 1]), ([1, 1], [1]), None, 1, True,
            "ab", {0: [1, 1], 1: 1}, [], {}, object(), range(2),
        ):
            self.assert_refused(2, [limit])
            self.assert_refused(2, [good, limit])
            self.assert_refused(2, [limit, good])

    def test_weights(self):
        for weights in (
            (1, 1), [], [1], [1, 1, 1], (), None, "11", 2, True, {0: 1, 1: 1}, {1, 2}, range(2), object(), [[1, 1]],
        ):
            self.assert_refused(2, [(weights, 1)])
            self.assert_refused(2, [([1, 1], 1), (weights, 1)])
        self.assert_refused(1, [([1, 1], 1)])
        self.assert_refused(4, [([1, 1, 1], 1)])

    def test_each_weight_and_the_bound(self):
        for number in (
            True, False, "1", "", None, 1.0, (1, 1), [1], {}, object(), 10 ** 12, -(10 ** 12), 10 ** 13 - 1,
            10 ** 40, -(10 ** 40),
        ):
            self.assert_refused(1, [([number], 1)])
            self.assert_refused(3, [([number, 1, 1], 1)])
            self.assert_refused(3, [([1, number, 1], 1)])
            self.assert_refused(3, [([1, 1, number], 1)])
            self.assert_refused(3, [([1, 1, 1], number)])
            self.assert_refused(1, [([1], 1)] * 9 + [([1], number)])

    def test_numbers_too_long_to_be_written(self):
        self.assertRaises(NoDesk, desk_of, 10 ** 9000, [])
        self.assertRaises(NoDesk, desk_of, 1, [([10 ** 9000], 1)])
        self.assertRaises(NoDesk, desk_of, 1, [([1], -(10 ** 9000))])

    def test_what_was_refused_is_as_before(self):
        limits = [([1, 2], 3), ([1, True], 4)]
        before = copy.deepcopy(limits)
        self.assertRaises(NoDesk, desk_of, 2, limits)
        self.assertEqual(repr(limits), repr(before))


class Weight(unittest.TestCase):
    def test_written_out(self):
        self.assertEqual(weight([1, -1], [(7, 4), (-5, 4)]), (3, 1))
        self.assertEqual(weight((2, 3), [(1, 2), (1, 3)]), (2, 1))
        self.assertEqual(weight([3], [(1, 6)]), (1, 2))
        self.assertEqual(weight([-3], [(1, 6)]), (-1, 2))
        self.assertEqual(weight([0, 0], [(1, 6), (5, 7)]), (0, 1))
        self.assertEqual(weight([1, 1], [(1, 6), (-1, 6)]), (0, 1))
        self.assertEqual(weight([5, 7, 0, 1], [(0, 1), (1, 14), (9, 5), (1, 3)]), (5, 6))

    def test_many(self):
        numbers = (0, 1, -2, MOST, -(10 ** 25))
        amounts = ((0, 1), (1, 2), (-7, 3), (10 ** 21 + 1, 10 ** 20), (-1, 10 ** 22))
        for kinds in (1, 2):
            for weights in itertools.product(numbers, repeat=kinds):
                for point in itertools.product(amounts, repeat=kinds):
                    wanted = plain_weight(weights, point)
                    for handed in (list(weights), weights):
                        told = weight(handed, list(point))
                        self.assertIs(type(told), tuple)
                        self.assertEqual(told, (wanted.numerator, wanted.denominator))

    def test_four_kinds(self):
        point = [(1, 2), (-2, 3), (10 ** 21, 7), (-5, 1)]
        for weights in itertools.product((0, 1, -3, MOST), repeat=4):
            wanted = plain_weight(weights, point)
            self.assertEqual(weight(list(weights), point), (wanted.numerator, wanted.denominator))

    def test_nothing_is_changed(self):
        weights = [1, -2]
        point = [(1, 2), (3, 4)]
        weight(weights, point)
        self.assertEqual(weights, [1, -2])
        self.assertEqual(point, [(1, 2), (3, 4)])


class Kept(unittest.TestCase):
    def assert_kept(self, desk, point):
        weights = [plain_weight(limit[0], point) for limit in desk[1]]
        bounds = [limit[1] for limit in desk[1]]
        before = (copy.deepcopy(desk), copy.deepcopy(point))
        places = range(len(bounds))
        self.assertEqual(broken(desk, point), [k for k in places if weights[k] > bounds[k]])
        self.assertEqual(just(desk, point), [k for k in places if weights[k] == bounds[k]])
        self.assertEqual((desk, point), before)

    def test_well_just_and_not(self):
        desk = desk_of(2, [([1, 0], 1), ([0, 1], 1), ([1, 1], 1), ([-1, 0], -1), ([2, 2], 3), ([0, 0], 0)])
        self.assertEqual(broken(desk, [(1, 1), (1, 2)]), [2])
        self.assertEqual(just(desk, [(1, 1), (1, 2)]), [0, 3, 4, 5])
        self.assertEqual(broken(desk, [(2, 1), (2, 1)]), [0, 1, 2, 4])
        self.assertEqual(just(desk, [(2, 1), (2, 1)]), [5])
        self.assertEqual(broken(desk, [(0, 1), (0, 1)]), [3])
        self.assertEqual(just(desk, [(0, 1), (0, 1)]), [5])

    def test_by_very_little(self):
        desk = desk_of(1, [([3], 1), ([-3], -1)])
        little = Fraction(1, 10 ** 30)
        third = Fraction(1, 3)
        self.assertEqual(broken(desk, [(1, 3)]), [])
        self.assertEqual(just(desk, [(1, 3)]), [0, 1])
        self.assertEqual(broken(desk, pairs_of([third + little])), [0])
        self.assertEqual(just(desk, pairs_of([third + little])), [])
        self.assertEqual(broken(desk, pairs_of([third - little])), [1])
        self.assertEqual(just(desk, pairs_of([third - little])), [])

    def test_no_limit(self):
        for kinds in range(1, 5):
            desk = desk_of(kinds, [])
            self.assertEqual(broken(desk, [(5, 3)] * kinds), [])
            self.assertEqual(just(desk, [(5, 3)] * kinds), [])

    def test_weights_of_nought(self):
        desk = desk_of(2, [([0, 0], 1), ([0, 0], 0), ([0, 0], -1)])
        self.assertEqual(broken(desk, [(9, 2), (-1, 5)]), [2])
        self.assertEqual(just(desk, [(9, 2), (-1, 5)]), [1])

    def test_many(self):
        amounts = [(0, 1), (1, 1), (-1, 1), (1, 2), (-3, 2), (10 ** 20 + 1, 10 ** 20)]
        limits = [([1, 1], 1), ([1, -1], 0), ([2, 0], 1), ([0, -2], 3), ([-3, 4], -2), ([MOST, -MOST], MOST),
                  ([1, 1], -MOST), ([0, 0], 0), ([5, 2], 1), ([-1, -1], 1)]
        desk = desk_of(2, limits)
        for point in itertools.product(amounts, repeat=2):
            self.assert_kept(desk, list(point))

    def test_of_four_kinds(self):
        desk = desk_of(4, [([1, 1, 1, 1], 0), ([1, -1, 1, -1], 1), ([0, 0, 0, 2], 1), ([-1, 2, -3, 4], -5)])
        for point in itertools.product([(0, 1), (1, 2), (-1, 2), (5, 3)], repeat=4):
            self.assert_kept(desk, list(point))

    def test_desks_with_more_limits_and_greater_numbers(self):
        great = 10 ** 40
        limits = tuple(((great + place, -great), great * (place - 6)) for place in range(30))
        for point in ([(1, 1), (1, 1)], [(0, 1), (6, 1)], [(1, 1), (0, 1)], [(-1, 3), (10 ** 41, 7)], [(0, 1), (0, 1)]):
            self.assert_kept((2, limits), point)
        self.assertEqual(just((2, limits), [(0, 1), (0, 1)]), [6])

    def test_the_lists_are_new_ones(self):
        desk = desk_of(1, [([1], 1), ([-1], -2)])
        for told in (broken, just):
            first = told(desk, [(1, 1)])
            wanted = list(first)
            first.append(7)
            self.assertEqual(told(desk, [(1, 1)]), wanted)
            self.assertIs(type(told(desk, [(1, 1)])), list)


class BadPoints(unittest.TestCase):
    def assert_bad(self, desk, point):
        with self.subTest(desk=desk, point=point):
            self.assertRaises(BadPoint, broken, desk, point)
            self.assertRaises(BadPoint, just, desk, point)

    def test_no_list_or_not_so_long(self):
        for desk in (desk_of(2, []), desk_of(2, [([1, 1], 1)]), (2, (((10 ** 20, 1), 1),) * 20)):
            for point in (
                ((1, 1), (1, 1)), (), [], [(1, 1)], [(1, 1)] * 3, None, 2, True, "ab", {}, {0: (1, 1), 1: (1, 1)},
                object(), range(2), iter([(1, 1), (1, 1)]), (1, 1),
            ):
                self.assert_bad(desk, point)
        self.assert_bad(desk_of(1, []), [(1, 1)] * 2)
        self.assert_bad(desk_of(4, []), [(1, 1)] * 3)
        self.assert_bad(desk_of(4, []), [(1, 1)] * 5)

    def test_amounts(self):
        for amount in NO_FRACTIONS:
            self.assert_bad(desk_of(1, []), [amount])
            for place in range(3):
                point = [(1, 2), (-3, 1), (0, 1)]
                point[place] = amount
                self.assert_bad(desk_of(3, []), point)
                self.assert_bad(desk_of(3, [([0, 0, 0], 1), ([1, 1, 1], 1)]), point)

    def test_a_bad_point_is_as_before(self):
        point = [(1, 2), (2, 4)]
        self.assert_bad(desk_of(2, []), point)
        self.assertEqual(point, [(1, 2), (2, 4)])


if __name__ == "__main__":
    unittest.main()
