import collections
import unittest
from fractions import Fraction

from desk_case import (
    DeskCase, MOST, NO_PLACES, all_desks, desks_by_chance, desks_that_come_round, desks_of_few_numbers, goals_for,
    hard_desks, least_clashes, made, spoil,
)
from limitdesk.errors import NoGoal, NoPlace, NoPoint
from limitdesk.goals import best, stretch, top

SQUARE = made(2, [[1, 0, 3], [-1, 0, 2], [0, 2, 5], [0, -3, 1]])
HALF = made(2, [[1, 1, 4]])
CLASH = made(2, [[1, 1, 1], [-1, -1, -2]])


class Best(DeskCase):
    def test_written_out(self):
        for desk, goal, kind, worth in (
            (SQUARE, [1, 0], "best", (3, 1)), (SQUARE, [-1, 0], "best", (2, 1)), (SQUARE, [0, 1], "best", (5, 2)),
            (SQUARE, [0, -1], "best", (1, 3)), (SQUARE, [2, 4], "best", (16, 1)), (SQUARE, [0, 0], "best", (0, 1)),
            (HALF, [2, 2], "best", (8, 1)), (HALF, [0, 0], "best", (0, 1)), (HALF, [1, 0], "endless", None),
            (HALF, [-1, -1], "endless", None), (HALF, [1, 2], "endless", None),
            (made(1, []), [0], "best", (0, 1)), (made(1, []), [1], "endless", None),
            (made(1, []), [-MOST], "endless", None), (made(1, [[0, 0]]), [-1], "endless", None),
            (made(3, [[0, 1, 0, 7], [0, -1, 0, -7]]), [0, 5, 0], "best", (35, 1)),
            (made(3, [[0, 1, 0, 7], [0, -1, 0, -7]]), [0, 5, -1], "endless", None),
        ):
            with self.subTest(desk=desk, goal=goal):
                self.assertEqual(self.assert_goal(desk, goal), kind)
                self.assertEqual(top(desk, goal), worth)

    def test_a_clash_whatever_the_goal(self):
        for desk in least_clashes():
            for goal in goals_for(desk, 41):
                self.assertEqual(self.assert_goal(desk, goal), "clash")

    def test_desks_of_few_numbers(self):
        kinds = collections.Counter()
        for desk in desks_of_few_numbers():
            for goal in ([0, 1], [-1, 1], [-1, -1]):
                kinds[self.assert_goal(desk, goal)] += 1
        self.assertGreater(min(kinds[kind] for kind in ("best", "endless", "clash")), 500)

    def test_desks_of_all_sorts(self):
        kinds = collections.Counter()
        for seed, desk in enumerate(all_desks()):
            for goal in goals_for(desk, seed):
                kinds[self.assert_goal(desk, goal)] += 1
        self.assertGreater(min(kinds[kind] for kind in ("best", "endless", "clash")), 500)

    def test_a_goal_of_noughts_is_best_at_each_desk_with_a_point(self):
        for desk in all_desks():
            self.assertIn(self.assert_goal(desk, [0] * desk[0]), ("best", "clash"))

    def test_goals_of_great_numbers(self):
        great = 10 ** 60
        self.assertEqual(top(SQUARE, [great, great + 1]), (11 * great + 5, 2))
        for desk in (SQUARE, HALF, CLASH) + tuple(desks_by_chance(42, 1, 9, (0, 9))):
            self.assert_goal(desk, [great + kind for kind in range(desk[0])])

    def test_an_answer_comes_where_steps_could_come_round(self):
        for desk, goal in desks_that_come_round():
            with self.seconds(5):
                self.assert_goal(desk, goal)

    def test_an_answer_comes_for_hard_desks(self):
        for desk in hard_desks() + desks_by_chance(43, 2, 1, (0, 0)):
            for goal in goals_for(desk, 44):
                with self.seconds(5):
                    self.assert_goal(desk, goal)

    def test_a_list_that_was_told_is_the_caller_s_own(self):
        for desk in (SQUARE, HALF, CLASH):
            for goal in ([1, 2], [1, 1], [0, 0]):
                spoil(best(desk, goal))
                self.assert_best(desk, goal)


class Stretch(DeskCase):
    def test_written_out(self):
        third = Fraction(1, 3)
        self.assert_ends(SQUARE, 0, (-2, 3))
        self.assert_ends(SQUARE, 1, (-third, Fraction(5, 2)))
        self.assert_ends(HALF, 0, (None, None))
        self.assert_ends(made(1, [[3, 7]]), 0, (None, Fraction(7, 3)))
        self.assert_ends(made(1, [[-3, 7]]), 0, (-Fraction(7, 3), None))
        self.assert_ends(made(1, [[3, -1], [-3, 1]]), 0, (-third, -third))
        self.assert_ends(made(2, [[1, 1, 0], [-1, 1, 0], [0, -1, 5]]), 0, (-5, 5))
        self.assert_ends(made(2, [[1, 1, 0], [-1, 1, 0], [0, -1, 5]]), 1, (-5, 0))
        self.assert_ends(made(2, [[1, 1, 0], [-1, 1, 0]]), 1, (None, 0))
        for kinds in range(1, 5):
            for kind in range(kinds):
                self.assert_ends(made(kinds, []), kind, (None, None))

    def test_one_kind_reckoned_by_itself(self):
        for desk in desks_by_chance(45, 20, 9, (-3, 9))[:220]:
            limits = [(weights[0], bound) for weights, bound in desk[1]]
            least = max([Fraction(bound, w) for w, bound in limits if w < 0], default=None)
            greatest = min([Fraction(bound, w) for w, bound in limits if w > 0], default=None)
            clash = any(w == 0 and bound < 0 for w, bound in limits)
            if clash or (least is not None and greatest is not None and least > greatest):
                self.assertRaises(NoPoint, stretch, desk, 0)
            else:
                self.assert_ends(desk, 0, (least, greatest))

    def test_desks_of_all_sorts(self):
        for desk in all_desks():
            for kind in range(desk[0]):
                self.assert_stretch(desk, kind)


class Refused(DeskCase):
    def test_goals(self):
        for desk in (SQUARE, HALF, CLASH, made(2, []), (2, (((10 ** 20, 1), 1),) * 20)):
            for goal in (
                (1, 1), [], [1], [1, 1, 1], (), None, 2, True, "11", "", {}, {0: 1, 1: 1}, {1, 2}, range(2), object(),
                [1, True], [False, 1], [1, "1"], [None, 1], [1, (1, 1)], [(0, 1), (0, 1)], [1, 1.0], [[1], 1], [[1, 1]],
                [1, Fraction(1)], [1, object()], iter([1, 1]), b"11",
            ):
                with self.subTest(desk=desk, goal=goal):
                    self.assertRaises(NoGoal, best, desk, goal)
                    self.assertRaises(NoGoal, top, desk, goal)
        for kinds in range(1, 5):
            for length in range(7):
                if length != kinds:
                    self.assertRaises(NoGoal, best, made(kinds, []), [1] * length)
                    self.assertRaises(NoGoal, top, made(kinds, []), [0] * length)

    def test_a_goal_that_was_refused_is_as_before(self):
        goal = [1, True, "x"]
        self.assertRaises(NoGoal, best, SQUARE, goal)
        self.assertEqual(repr(goal), "[1, True, 'x']")

    def test_kinds(self):
        for desk in (SQUARE, HALF, CLASH, made(2, [])):
            for kind in NO_PLACES + (2, 3, -2):
                with self.subTest(desk=desk, kind=kind):
                    self.assertRaises(NoPlace, stretch, desk, kind)
        for kinds in range(1, 5):
            self.assertRaises(NoPlace, stretch, made(kinds, []), kinds)
            self.assertRaises(NoPlace, stretch, made(kinds, [[0] * kinds + [-1]]), kinds)

    def test_no_point(self):
        for goal in ([0, 0], [1, 1], [MOST, -MOST]):
            self.assertRaises(NoPoint, top, CLASH, goal)
        self.assertRaises(NoPoint, stretch, CLASH, 0)
        self.assertRaises(NoPoint, stretch, CLASH, 1)


if __name__ == "__main__":
    unittest.main()
