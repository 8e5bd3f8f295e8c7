import itertools
import random
import unittest

from desk_case import (
    DeskCase, MOST, NO_FRACTIONS, NO_PLACES, desks_beyond, desks_by_chance, desks_of_few_numbers,
    desks_through_a_point, hard_desks, least_clashes, made, rows_by_chance, spoil,
)
from limitdesk.dropping import dropped, filled
from limitdesk.errors import BadPoint, NoPlace, NoPoint
from limitdesk.goals import stretch
from limitdesk.judging import judged
from limitdesk.several import within

WEDGE = made(2, [[1, 1, 4], [-1, 2, 3], [0, -1, 1]])
CLASH = made(3, [[1, 1, 0, 1], [-1, -1, 0, -2], [0, 0, 1, 5]])


def of_some_kinds(desks):
    return [desk for desk in desks if desk[0] > 1]


def with_column(desk, kind, numbers):
    """The desk with these weights of the kind, limit by limit."""
    limits = zip(desk[1], itertools.cycle(numbers))
    return made(desk[0], [w[:kind] + (number,) + w[kind + 1:] + (bound,) for (w, bound), number in limits])


class Dropped(DeskCase):
    def assert_all_kinds(self, desks):
        counts = [0, 0]
        for seed, desk in enumerate(desks):
            for kind in range(desk[0]):
                told = self.assert_dropped(desk, kind)
                counts = [a + b for a, b in zip(counts, self.assert_filled_as_dropped(desk, kind, told, seed))]
        self.assertGreater(min(counts), 100)

    def test_written_out(self):
        # Of the wedge the first amount is from -5 to 5, the second from -1 to 7 thirds.
        self.assert_dropped(WEDGE, 0)
        self.assert_dropped(WEDGE, 1)
        self.assert_ends(dropped(WEDGE, 1), 0, (-5, 5))
        self.assertEqual(stretch(dropped(WEDGE, 0), 0), ((-1, 1), (7, 3)))

    def test_each_number_of_kinds_and_limits(self):
        self.assert_all_kinds(of_some_kinds(desks_by_chance(61, 1, 9, (0, 9)) + desks_by_chance(62, 1, 9)))

    def test_numbers_of_one_alone(self):
        self.assert_all_kinds(of_some_kinds(desks_by_chance(63, 2, 1, (-1, 1))))

    def test_numbers_of_twelve_figures(self):
        self.assert_all_kinds(of_some_kinds(desks_by_chance(64, 1, MOST, (0, MOST))))
        self.assert_all_kinds(of_some_kinds(desks_by_chance(65, 1, MOST)))

    def test_where_all_limits_meet(self):
        self.assert_all_kinds(of_some_kinds(desks_through_a_point(66, 2)))

    def test_desks_of_few_numbers(self):
        self.assert_all_kinds(desks_of_few_numbers()[::7])

    def test_hard_desks(self):
        for desk in hard_desks():
            for kind in range(4):
                with self.seconds(10):
                    self.assert_dropped(desk, kind)

    def test_more_limits_and_greater_numbers(self):
        for desk in of_some_kinds(desks_beyond()):
            with self.seconds(20):
                told = self.assert_dropped(desk, 0)
                self.assert_filled_as_dropped(desk, 0, told, 67)

    def test_a_kind_bounded_on_one_side_only(self):
        for desk in of_some_kinds(desks_by_chance(68, 1, 9)):
            for kind, sign in itertools.product(range(desk[0]), (1, -1)):
                bounded = with_column(desk, kind, (sign, 7 * sign))
                told = self.assert_dropped(bounded, kind)
                # Some amount is always far enough on the other side.
                self.assertEqual(judged(told)[0], "point")
                self.assertEqual(self.assert_filled_as_dropped(bounded, kind, told, 69)[0], 0)
                seldom = with_column(desk, kind, (sign, 0, 0))
                self.assert_filled_as_dropped(seldom, kind, self.assert_dropped(seldom, kind), 70)

    def test_a_kind_that_no_limit_weighs(self):
        for desk in of_some_kinds(desks_by_chance(71, 1, 9, (-3, 9))):
            for kind in range(desk[0]):
                free = with_column(desk, kind, (0,))
                without = made(desk[0] - 1, [w[:kind] + w[kind + 1:] + (bound,) for w, bound in free[1]])
                told = self.assert_dropped(free, kind)
                self.assertTrue(self.assert_outside(told, without))
                self.assertTrue(self.assert_outside(without, told))
                self.assert_filled_as_dropped(free, kind, told, 72)

    def test_no_limits(self):
        for kinds in range(2, 5):
            for kind in range(kinds):
                told = self.assert_dropped(made(kinds, []), kind)
                self.assertEqual(self.assert_filled_as_dropped(made(kinds, []), kind, told, 73)[0], 0)

    def test_limits_without_any_weight(self):
        for kinds in range(2, 5):
            for kind, bound in itertools.product(range(kinds), (-MOST, -1, 0, 1)):
                for rows in ([], [[1] * kinds + [3], [-1] * kinds + [5], list(range(kinds)) + [0]]):
                    desk = made(kinds, rows[:1] + [[0] * kinds + [bound]] + rows[1:])
                    told = self.assert_dropped(desk, kind)
                    counts = self.assert_filled_as_dropped(desk, kind, told, 74)
                    self.assertEqual(judged(told)[0], "point" if bound >= 0 else "clash")
                    self.assertEqual(counts[1] == 0, bound < 0)

    def test_a_desk_without_a_point(self):
        for desk in [CLASH] + of_some_kinds(least_clashes()):
            for kind in range(desk[0]):
                told = self.assert_dropped(desk, kind)
                self.assertEqual(judged(told)[0], "clash")
                self.assertEqual(self.assert_filled_as_dropped(desk, kind, told, 75)[1], 0)

    def test_by_very_little(self):
        for off, kind in ((0, "point"), (-1, "clash")):
            rows = [[MOST, 1, 5], [1 - MOST, -1, off - 5], [-1, 0, 0]]
            self.assertEqual(self.assert_judged(self.assert_dropped(made(2, rows), 1)), kind)

    def test_the_kinds_left_stay_in_order(self):
        desk = made(4, [[1, 0, 0, 0, 1], [0, 1, 0, 0, 2], [0, 0, 1, 0, 3], [0, 0, 0, 1, 4]])
        for kind in range(4):
            told = self.assert_dropped(desk, kind)
            ends = [stretch(told, k) for k in range(3)]
            self.assertEqual(ends, [(None, (k + 1, 1)) for k in range(4) if k != kind])


class OneAfterAnother(DeskCase):
    def assert_one_left(self, desk, order, wanted):
        """Drops kinds in the order, each a place among those then left, and fills a point of what is left again."""
        chain = [desk]
        for kind in order:
            chain.append(self.assert_dropped(chain[-1], kind))
        if judged(desk)[0] == "clash":
            self.assertRaises(NoPoint, stretch, chain[-1], 0)
            return
        self.assertEqual(stretch(chain[-1], 0), stretch(desk, wanted))
        point = judged(chain[-1])[1]
        for told, kind in reversed(list(zip(chain, order))):
            self.assertTrue(self.assert_filled(told, kind, point))
            point = point[:kind] + [filled(told, kind, point)] + point[kind:]
        self.assert_point(desk, point)

    def assert_each_kind_left(self, desk):
        for first, second, third in itertools.permutations(range(desk[0]), 3):
            order = (first, second - (first < second), third - (first < third) - (second < third))
            self.assert_one_left(desk, order, 6 - first - second - third)

    def test_of_four_kinds(self):
        for most, bounds in ((9, (0, 9)), (2, (-1, 3)), (MOST, (0, MOST))):
            chance = random.Random(most)
            rows = [row[:-1] + [chance.randint(*bounds)] for row in rows_by_chance(chance, 10, 5, most)]
            for count in (1, 4, 10):
                self.assert_each_kind_left(made(4, rows[:count]))

    def test_hard_desks(self):
        for desk in hard_desks()[:10]:
            self.assert_one_left(desk, (3, 2, 1), 0)
            self.assert_one_left(desk, (0, 0, 0), 3)

    def test_without_a_point(self):
        for desk in least_clashes():
            if desk[0] == 4:
                self.assert_one_left(desk, (0, 1, 1), 1)

    def test_in_either_order(self):
        for desk in desks_by_chance(76, 1, 9, (-1, 9))[22:]:
            one = dropped(dropped(desk, 0), 0)
            other = dropped(dropped(desk, 1), 0)
            self.assertTrue(within(one, other) and within(other, one), desk)


class Filled(DeskCase):
    def test_one_kind(self):
        self.assertTrue(self.assert_filled(made(1, []), 0, []))
        self.assertTrue(self.assert_filled(made(1, [[3, 7], [-2, -4]]), 0, []))
        self.assertTrue(self.assert_filled(made(1, [[3, 7], [-3, -7]]), 0, []))
        self.assertEqual(filled(made(1, [[3, 7], [-3, -7]]), 0, []), (7, 3))
        self.assertFalse(self.assert_filled(made(1, [[3, 7], [-3, -8]]), 0, []))
        self.assertFalse(self.assert_filled(made(1, [[1, 7], [0, -1]]), 0, []))
        for desk in desks_by_chance(77, 9, 9, (-3, 9)):
            if desk[0] == 1:
                self.assertIs(self.assert_filled(desk, 0, []), judged(desk)[0] == "point")

    def test_written_out(self):
        for amount, keeps in (((5, 1), True), ((-5, 1), True), ((51, 10), False), ((-51, 10), False), ((0, 1), True)):
            self.assertIs(self.assert_filled(WEDGE, 1, [amount]), keeps)
        self.assertEqual(filled(WEDGE, 1, [(5, 1)]), (-1, 1))
        self.assertEqual(filled(WEDGE, 0, [(7, 3)]), (5, 3))

    def test_points_of_great_numbers(self):
        great = 10 ** 60
        self.assertTrue(self.assert_filled(WEDGE, 1, [(5 * great - 1, great)]))
        self.assertFalse(self.assert_filled(WEDGE, 1, [(5 * great + 1, great)]))

    def test_the_point_may_be_used_further(self):
        point = [(1, 2), (3, 1)]
        desk = made(3, [[1, 1, 1, 4], [-1, 0, -1, 9]])
        for kind in range(3):
            self.assertTrue(self.assert_filled(desk, kind, point))
            self.assertEqual(point, [(1, 2), (3, 1)])

    def test_what_is_told_can_t_be_changed(self):
        spoil(filled(WEDGE, 0, [(0, 1)]))
        spoil(dropped(WEDGE, 0))
        self.assert_filled_as_dropped(WEDGE, 0, self.assert_dropped(WEDGE, 0), 78)


class Refused(DeskCase):
    def test_kinds(self):
        for desk in (WEDGE, CLASH, made(4, []), made(1, []), made(1, [[0, -1]]), dropped(CLASH, 0)):
            for kind in NO_PLACES + (desk[0], desk[0] + 1, -desk[0]):
                self.assert_refused(NoPlace, dropped, desk, kind)
                self.assert_refused(NoPlace, filled, desk, kind, [(0, 1)] * (desk[0] - 1))

    def test_one_kind(self):
        for desk in (made(1, []), made(1, [[1, 2]]), made(1, [[0, -1]]), dropped(WEDGE, 1)):
            self.assert_refused(NoPlace, dropped, desk, 0)

    def test_points(self):
        right = [(1, 2), (0, 1)]
        bad = [tuple(right), [], right[:1], right + [(0, 1)], right * 2, None, True, 2, "", "ab", {}, {0: (0, 1)},
               {(0, 1)}, object(), iter(right), b"ab", 1.5, range(2)]
        for thing in NO_FRACTIONS:
            bad.extend(([thing, (0, 1)], [(0, 1), thing], [thing, thing]))
        for desk in (made(3, [[1, 2, 3, 4]]), made(3, []), CLASH, dropped(made(4, [[1, 2, 3, 4, 5]]), 0)):
            for point in bad:
                for kind in range(3):
                    self.assert_refused(BadPoint, filled, desk, kind, point)

    def test_points_for_each_number_of_kinds(self):
        for kinds in range(1, 5):
            for length in range(6):
                if length != kinds - 1:
                    self.assert_refused(BadPoint, filled, made(kinds, []), 0, [(0, 1)] * length)
        for point in ((), None, "", {}, 0):
            self.assert_refused(BadPoint, filled, made(1, []), 0, point)

    def test_the_kind_goes_ahead_of_the_point(self):
        for desk in (WEDGE, CLASH, made(1, [])):
            for kind, point in itertools.product((desk[0], -1, True, None, "0"), (None, (), [1] * 9, [(2, 4)], "")):
                self.assert_refused(NoPlace, filled, desk, kind, point)

    def test_a_point_that_was_refused_is_as_before(self):
        point = [(2, 4), True]
        self.assert_refused(BadPoint, filled, CLASH, 0, point)
        self.assertEqual(repr(point), "[(2, 4), True]")


if __name__ == "__main__":
    unittest.main()
