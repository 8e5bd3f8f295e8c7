import collections
import unittest

from desk_case import (
    DeskCase, MOST, NO_PLACES, all_desks, desks_by_chance, desks_of_few_numbers, desks_through_a_point, hard_desks,
    least_clashes, made, spoil,
)
from limitdesk.errors import NoPlace, NoPoint
from limitdesk.limits import cover, lean, needless, tight, well_within

CORNER = made(2, [[1, 0, 3], [0, 1, 2], [1, 1, 5], [1, 1, 4], [0, 0, 0], [-1, -1, 9]])
CLASH = made(2, [[1, 1, 1], [-1, -1, -2], [1, 0, 5]])


class Cover(DeskCase):
    def test_written_out(self):
        kinds = [self.assert_needless(CORNER, place) for place in range(6)]
        self.assertEqual(kinds, ["point", "point", "shares", "point", "shares", "point"])
        self.assertEqual(cover(CORNER, 4), ("shares", [(0, 1)] * 6))

    def test_the_only_limit(self):
        for kinds in range(1, 5):
            self.assertEqual(self.assert_needless(made(kinds, [[0] * kinds + [0]]), 0), "shares")
            self.assertEqual(self.assert_needless(made(kinds, [[0] * kinds + [5]]), 0), "shares")
            self.assertEqual(self.assert_needless(made(kinds, [[0] * kinds + [-1]]), 0), "point")
            self.assertEqual(self.assert_needless(made(kinds, [[1] * kinds + [MOST]]), 0), "point")
            self.assertEqual(self.assert_needless(made(kinds, [[1] * kinds + [-MOST]]), 0), "point")

    def test_the_same_limit_twice(self):
        desk = made(3, [[1, 2, 3, 4], [0, 1, 0, 0], [1, 2, 3, 4]])
        self.assertEqual([self.assert_needless(desk, place) for place in range(3)], ["shares", "point", "shares"])
        nearly = made(3, [[1, 2, 3, 4], [0, 1, 0, 0], [1, 2, 3, 5]])
        self.assertEqual([self.assert_needless(nearly, place) for place in range(3)], ["point", "point", "shares"])

    def test_sums_of_others(self):
        for off, kind in ((0, "shares"), (1, "shares"), (-1, "point")):
            rows = [[1, 2, 0, 1, 3], [0, -1, 5, 1, 4], [7, 0, 0, -2, -6]]
            total = [rows[0][k] + 2 * rows[1][k] + 3 * rows[2][k] for k in range(5)]
            total[-1] += off
            for place in range(4):
                with self.subTest(off=off, place=place):
                    self.assertEqual(self.assert_needless(made(4, rows[:place] + [total] + rows[place:]), place), kind)

    def test_others_that_clash(self):
        self.assertEqual([self.assert_needless(CLASH, place) for place in range(2)], ["point", "point"])
        # This one is no sum of the others: only their clash shows that it is needless.
        self.assertEqual(self.assert_needless(CLASH, 2), "clash")
        for desk in least_clashes():
            for place in range(len(desk[1])):
                self.assertEqual(self.assert_needless(desk, place), "point")
            more = (desk[0], desk[1] + (((1,) * desk[0], -MOST),))
            self.assertIs(needless(more, len(desk[1])), True)

    def test_desks_of_few_numbers(self):
        kinds = collections.Counter()
        for desk in desks_of_few_numbers():
            if desk[1]:
                kinds[self.assert_needless(desk, len(desk[1]) // 2)] += 1
        self.assertGreater(min(kinds[kind] for kind in ("shares", "clash", "point")), 100)

    def test_desks_of_all_sorts(self):
        kinds = collections.Counter()
        for desk in all_desks():
            for place in range(len(desk[1])):
                kinds[self.assert_needless(desk, place)] += 1
        self.assertGreater(min(kinds[kind] for kind in ("shares", "clash", "point")), 100)

    def test_a_list_that_was_told_is_the_caller_s_own(self):
        for desk in (CORNER, CLASH):
            for place in range(len(desk[1])):
                spoil(cover(desk, place))
                self.assert_needless(desk, place)


class Lean(DeskCase):
    def test_written_out(self):
        self.assertEqual(lean(CORNER), made(2, [[1, 0, 3], [0, 1, 2], [1, 1, 4], [-1, -1, 9]]))
        self.assertEqual(lean(CLASH), made(2, [[1, 1, 1], [-1, -1, -2]]))
        self.assertEqual(lean(made(3, [])), (3, ()))
        self.assertEqual(lean(made(1, [[0, 0]])), (1, ()))
        self.assertEqual(lean(made(1, [[0, -1]])), (1, (((0,), -1),)))

    def test_of_limits_alike_the_last_is_left(self):
        twice = made(2, [[1, 0, 1], [0, 1, 1], [1, 0, 1]])
        self.assertEqual(lean(twice), made(2, [[0, 1, 1], [1, 0, 1]]))
        # Alike but for how they are written: the one of greater numbers is the last.
        self.assertEqual(lean(made(1, [[1, 1], [2, 2]])), made(1, [[2, 2]]))
        self.assertEqual(lean(made(1, [[2, 2], [1, 1]])), made(1, [[1, 1]]))
        self.assertEqual(lean(made(4, [[1, 2, 3, 4, 5]] * 10)), made(4, [[1, 2, 3, 4, 5]]))

    def test_from_the_first_limit_on(self):
        # Each is needless while all others are there, but not all of them together.
        rows = [[1, 0, 0], [-1, 0, 0], [0, 0, -1], [0, 0, -2]]
        self.assertEqual(lean(made(2, rows)), made(2, [[0, 0, -2]]))
        self.assertEqual(lean(made(2, rows[::-1])), made(2, [[0, 0, -1]]))
        self.assertEqual(lean(made(1, [[1, 0], [1, -1], [-1, -1]])), made(1, [[1, -1], [-1, -1]]))
        self.assertEqual(lean(made(1, [[1, -1], [1, 0], [-1, -1]])), made(1, [[1, 0], [-1, -1]]))

    def test_desks_of_few_numbers(self):
        for desk in desks_of_few_numbers():
            self.assert_lean(desk)

    def test_desks_of_all_sorts(self):
        for desk in all_desks():
            self.assert_lean(desk)

    def test_without_a_point(self):
        for desk in least_clashes():
            self.assertEqual(lean(desk), desk)
            self.assert_lean((desk[0], desk[1] + desk[1]))
            self.assert_lean((desk[0], ((tuple(range(desk[0])), 3),) + desk[1]))

    def test_an_answer_comes_for_hard_desks(self):
        for desk in hard_desks():
            with self.seconds(10):
                lean(desk)


class Tight(DeskCase):
    def assert_places(self, desk, places):
        self.assertEqual(self.assert_tight(desk), places)

    def test_written_out(self):
        self.assert_places(CORNER, [4])
        self.assert_places(made(2, [[1, 0, 3], [0, 1, 2]]), [])
        self.assert_places(made(1, [[1, 3], [-1, -3], [1, 4], [2, 6]]), [0, 1, 3])
        self.assert_places(made(2, [[1, 1, 0], [1, 0, 5], [-1, -1, 0], [0, 0, 1]]), [0, 2])
        self.assert_places(made(2, [[1, 0, 0], [0, 1, 0], [-1, -1, 0]]), [0, 1, 2])
        self.assert_places(made(2, [[1, 0, 0], [0, 1, 0], [-1, -1, 1]]), [])
        for kinds in range(1, 5):
            self.assert_places(made(kinds, []), [])
            self.assert_places(made(kinds, [[0] * kinds + [0], [0] * kinds + [1], [1] * kinds + [0]]), [0])

    def test_a_limit_and_the_same_turned_round(self):
        for desk in desks_by_chance(51, 2, 9, (0, 9)):
            kinds, limits = desk
            for place in range(min(2, len(limits))):
                weights, bound = limits[place]
                turned = (tuple(-number for number in weights), -bound)
                places = self.assert_tight((kinds, limits + (turned,)))
                if places is not None:
                    self.assertIn(place, places)
                    self.assertIn(len(limits), places)

    def test_where_all_limits_meet(self):
        counts = collections.Counter()
        for desk in desks_through_a_point(52, 4):
            places = self.assert_tight(desk)
            counts["all" if len(places) == len(desk[1]) else "some" if places else "none"] += 1
        self.assertGreater(min(counts["all"], counts["some"], counts["none"]), 5)

    def test_desks_of_few_numbers(self):
        for desk in desks_of_few_numbers():
            self.assert_tight(desk)

    def test_desks_of_all_sorts(self):
        for desk in all_desks():
            self.assert_tight(desk)

    def test_an_answer_comes_for_hard_desks(self):
        for desk in hard_desks():
            with self.seconds(10):
                self.assert_tight(desk)

    def test_no_point(self):
        for desk in [CLASH] + least_clashes():
            self.assertRaises(NoPoint, tight, desk)
            self.assertRaises(NoPoint, well_within, desk)

    def test_a_list_that_was_told_is_the_caller_s_own(self):
        desk = made(2, [[1, 1, 0], [1, 0, 5], [-1, -1, 0]])
        for told in (tight, well_within):
            spoil(told(desk))
            self.assert_places(desk, [0, 2])


class Refused(DeskCase):
    def test_places(self):
        for desk in (CORNER, CLASH, made(2, []), made(1, [[0, -1]])):
            for place in NO_PLACES + (len(desk[1]), len(desk[1]) + 1, -len(desk[1]) - 1):
                with self.subTest(desk=desk, place=place):
                    self.assertRaises(NoPlace, cover, desk, place)
                    self.assertRaises(NoPlace, needless, desk, place)

    def test_each_place_there_is_is_taken(self):
        for count in range(1, 11):
            desk = made(2, [[k, -k, 5 - k] for k in range(count)])
            for place in range(count):
                self.assert_needless(desk, place)
            self.assertRaises(NoPlace, cover, desk, count)


if __name__ == "__main__":
    unittest.main()
