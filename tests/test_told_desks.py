"""Desks that functions told, with many limits and great numbers, are taken by all functions as others are."""

import random
import unittest

from desk_case import DeskCase, MOST, desks_through_a_point, goals_for, hard_desks, least_clashes, made, rows_by_chance
from limitdesk.desks import broken, desk_of
from limitdesk.dropping import dropped, filled
from limitdesk.errors import BadPoint, NoDesk, NoGoal, NoPlace, NoText, Unlike
from limitdesk.goals import best, stretch
from limitdesk.judging import judged
from limitdesk.limits import cover, lean
from limitdesk.several import outside
from limitdesk.texts import read, shown

# Without the last kind 22 limits are left, none of them needless.
MANY = made(4, [
    [9, 9, -1, 3, 14], [-9, -4, 3, -3, 8], [8, -1, -7, 3, 14], [2, -6, 2, -2, 18], [2, 2, -5, 3, 8],
    [-3, -8, -1, -1, 19], [8, 7, 6, 3, 20], [0, 3, -1, -1, 18], [-5, 3, 4, 1, 7], [-8, -5, 2, -1, 14],
])


def grown(desk):
    """The desk with other numbers of 12 figures, its limits nearly as they were."""
    chance = random.Random(101)
    often = MOST // 30
    return made(desk[0], [[often * number + chance.randint(-9, 9) for number in w + (b,)] for w, b in desk[1]])


def first_desks():
    chance = random.Random(102)
    desks = [MANY, grown(MANY)] + hard_desks()[:10]
    for most in (2, 9, MOST):
        for lowest in (-most // 3, 0):
            rows = [row[:-1] + [chance.randint(lowest, most)] for row in rows_by_chance(chance, 10, 5, most)]
            desks.append(made(4, rows))
    desks.extend(desks_through_a_point(103, 1)[-4:])
    return desks + [desk for desk in least_clashes() if desk[0] == 4][-3:]


def told_desks():
    """Desks told by dropping once, twice and three times, and lean ones."""
    told = []
    for place, desk in enumerate(first_desks()):
        once = dropped(desk, 3 - place % 4)
        twice = dropped(once, place % 3)
        told.extend((once, twice, dropped(twice, place % 2), lean(desk)))
    return told


class Told(DeskCase):
    @classmethod
    def setUpClass(cls):
        cls.desks = told_desks()

    def points_of(self, desk):
        answers = [best(desk, goal) for goal in goals_for(desk, 104)] + [judged(desk)]
        return [answer[1] for answer in answers if answer[0] != "clash"]

    def test_there_are_many_limits_and_great_numbers(self):
        for desk in self.desks:
            self.assert_desk(desk, desk[0])
        once = dropped(MANY, 3)
        twice = dropped(dropped(grown(MANY), 3), 0)
        self.assertGreater(len(once[1]), 12)
        self.assertGreater(max(abs(bound) for weights, bound in twice[1]), 10 ** 30)

    def test_points_clashes_and_goals(self):
        for desk in self.desks:
            self.assert_judged(desk)
            for goal in goals_for(desk, 105):
                self.assert_goal(desk, goal)
            for kind in range(desk[0]):
                self.assert_stretch(desk, kind)

    def test_places_of_limits_that_are_kept(self):
        for desk in self.desks:
            for point in self.points_of(desk) + [[(0, 1)] * desk[0], [(-10 ** 30, 7)] * desk[0]]:
                self.assert_kept(desk, point)
            for place in range(len(desk[1])):
                answer = cover(desk, place)
                if answer[0] == "point":
                    self.assert_kept(desk, answer[1])

    def test_needless_lean_and_tight(self):
        for desk in self.desks:
            for place in range(len(desk[1])):
                self.assert_needless(desk, place)
            self.assert_lean(desk)
            self.assert_tight(desk)

    def test_a_limit_of_a_told_desk_there_twice(self):
        for desk in self.desks:
            twice = (desk[0], desk[1] + desk[1])
            self.assert_lean(twice)
            self.assert_tight(twice)
            self.assertEqual(lean(twice), lean(desk))

    def test_within_one_another(self):
        for kinds in range(1, 5):
            desks = [desk for desk in self.desks if desk[0] == kinds]
            for one, other in zip(desks, desks[1:]):
                self.assertTrue(self.assert_outside(one, one))
                self.assert_outside(one, other)
                self.assert_outside(other, one)
                self.assertTrue(self.assert_outside((kinds, one[1] + other[1]), one))

    def test_dropped_and_filled(self):
        for desk in self.desks:
            for kind in range(desk[0] if desk[0] > 1 else 0):
                told = self.assert_dropped(desk, kind)
                self.assert_filled_as_dropped(desk, kind, told, 106)

    def test_corners(self):
        counts = [self.assert_corners(desk) for desk in self.desks]
        self.assertGreater(len([count for count in counts if count is not None and count > 2]), 5)

    def test_whole_points(self):
        counts = [self.assert_whole_points(desk) for desk in self.desks]
        self.assertGreater(len([count for count in counts if count is not None and count > 2]), 5)

    def test_texts(self):
        counts = [0, 0]
        for desk in self.desks:
            try:
                again = desk_of(desk[0], [(list(weights), bound) for weights, bound in desk[1]])
            except NoDesk:
                counts[0] += 1
                self.assertRaises(NoText, read, shown(desk))
            else:
                counts[1] += 1
                self.assertEqual(again, desk)
                self.assertEqual(read(shown(desk)), desk)
        self.assertGreater(min(counts), 5)

    def test_refusals(self):
        for desk in self.desks:
            self.assertRaises(NoGoal, best, desk, [1] * (desk[0] + 1))
            self.assertRaises(NoPlace, stretch, desk, desk[0])
            self.assertRaises(NoPlace, cover, desk, len(desk[1]))
            self.assertRaises(Unlike, outside, desk, (desk[0] + 1, ()))
            self.assertRaises(NoPlace, dropped, desk, desk[0])
            self.assertRaises(BadPoint, filled, desk, 0, [(0, 1)] * desk[0])
            self.assertRaises(BadPoint, broken, desk, ((0, 1),) * desk[0])


if __name__ == "__main__":
    unittest.main()
