"""What holds over the whole program: its names, what is handed in and told, and the order of refusals."""

import copy
import importlib
import inspect
import os
import pathlib
import subprocess
import sys
import unittest
from fractions import Fraction

from desk_case import DeskCase, NO_FRACTIONS, NO_PLACES, made, spoil
from limitdesk.corners import corners
from limitdesk.desks import broken, desk_of, just, weight
from limitdesk.dropping import dropped, filled
from limitdesk.errors import BadPoint, NoDesk, NoGoal, NoPlace, NoPoint, NoTable, NoText, TooMany, Unlike
from limitdesk.fracs import below, frac, less, over, plus, times, turned
from limitdesk.goals import best, stretch, top
from limitdesk.judging import judged
from limitdesk.limits import cover, lean, needless, tight, well_within
from limitdesk.matches import match
from limitdesk.mixes import mix, told_as
from limitdesk.several import outside, within
from limitdesk.texts import read, read_fraction, shown, shown_fraction
from limitdesk.wholes import whole_points

TOP = pathlib.Path(__file__).resolve().parent.parent
ARGUMENTS = {
    "fracs": {"frac": "upper lower", "plus": "a b", "less": "a b", "times": "a b", "over": "a b", "turned": "a",
              "below": "a b"},
    "desks": {"desk_of": "kinds limits", "weight": "weights point", "broken": "desk point", "just": "desk point"},
    "judging": {"judged": "desk"},
    "goals": {"best": "desk goal", "top": "desk goal", "stretch": "desk kind"},
    "limits": {"cover": "desk place", "needless": "desk place", "lean": "desk", "tight": "desk", "well_within": "desk"},
    "several": {"outside": "one other", "within": "one other"},
    "dropping": {"dropped": "desk kind", "filled": "desk kind point"},
    "corners": {"corners": "desk"},
    "wholes": {"whole_points": "desk"},
    "mixes": {"mix": "points shares", "told_as": "points point"},
    "matches": {"match": "table"},
    "texts": {"shown_fraction": "a", "shown": "desk", "read_fraction": "line", "read": "line"},
}

SQUARE = made(2, [[1, 0, 3], [-1, 0, 2], [0, 2, 5], [0, -3, 1], [1, 1, 9]])
CLASH = made(2, [[1, 1, 1], [-1, -1, -2], [1, 0, 5]])
ENDLESS = made(2, [[1, 1, 4]])
FREE = made(2, [])
FOUR = made(4, [[1, 2, 3, 4, 5], [-1, 0, 0, 0, 0], [0, -1, 0, 0, 0], [0, 0, -1, 0, 0], [0, 0, 0, -1, 0]])
TOLD = dropped(FOUR, 3)
DESKS = (SQUARE, CLASH, ENDLESS, FREE, FOUR, TOLD, lean(SQUARE), made(1, [[2, 3]]), made(1, [[0, -1]]))


def in_itself():
    thing = []
    thing.append(thing)
    return thing


def deep():
    thing = []
    for k in range(100000):
        thing = [thing]
    return thing


# None of these is a point, points, a goal, a place, a table or a line, nor an amount or a number in one.
NOTHING_RIGHT = (
    None, True, False, 1.5, 0.0, float("nan"), float("inf"), 1j, "", b"", b"1", bytearray(), (), {}, {0: 0}, set(), {0},
    frozenset(), range(1), range(2), iter([]), iter([(0, 1)]), object(), object, int, list, len, lambda: 0, Fraction(0),
    Ellipsis, NotImplemented, sys, ValueError("x"), memoryview(b"1"), slice(1), in_itself(), deep(), [None], ((0, 1),),
)
ANYTHING = NOTHING_RIGHT + (
    -10 ** 5000, [[]], [()], [{}], [""], [0.0], [object()], [True] * 2, [None] * 2, ["1"] * 2, [[]] * 2, ([0, 0],),
    [in_itself()], [deep()], [in_itself()] * 2,
)


def right_calls():
    """Each function with right arguments, at desks of all sorts."""
    calls = [(frac, 6, -4), (plus, (1, 2), (1, 3)), (less, (1, 2), (1, 3)), (times, (1, 2), (2, 3)),
             (over, (1, 2), (-2, 3)), (turned, (1, 2)), (below, (1, 3), (1, 2)),
             (desk_of, 2, [([1, 2], 3), ([0, 0], -1)]), (weight, [1, 2], [(1, 2), (3, 1)]),
             (mix, [[(0, 1), (1, 2)], [(1, 1), (1, 3)]], [(1, 4), (3, 4)]), (mix, [[(5, 1)]], [(1, 1)]),
             (told_as, [[(0, 1), (1, 2)], [(1, 1), (1, 3)]], [(1, 1), (1, 3)]),
             (told_as, [[(0, 1), (1, 2)], [(1, 1), (1, 3)]], [(1, 1), (1, 2)]), (told_as, [[(5, 1)]], [(5, 1)]),
             (match, [[3, -1], [-2, 5]]), (match, [[0]]), (read, "2 ; 1 -1 : 3 ; 0 4 : -5"), (read, "4"),
             (read_fraction, "-5/7"), (read_fraction, "0"), (shown_fraction, (-5, 7))]
    for desk in DESKS:
        point = [(1, 2)] * desk[0]
        calls.extend((function, desk) for function in (judged, lean, tight, well_within, corners, whole_points, shown))
        calls.extend((function, desk, point) for function in (broken, just))
        for goal in ([0] * desk[0], [1] * desk[0], [-1] * desk[0]):
            calls.extend(((best, desk, goal), (top, desk, goal)))
        for kind in range(desk[0]):
            calls.extend(((stretch, desk, kind), (dropped, desk, kind), (filled, desk, kind, point[1:])))
        for place in range(len(desk[1])):
            calls.extend(((cover, desk, place), (needless, desk, place)))
        for other in DESKS:
            calls.extend(((outside, desk, other), (within, desk, other)))
    return calls


def answered(call):
    """What is told, or the refusal: right arguments may meet with a desk without a point, or too many."""
    try:
        return call[0](*call[1:])
    except (NoPoint, TooMany, Unlike, NoPlace) as error:
        return error.__class__


class Names(unittest.TestCase):
    def test_each_function_is_there_with_its_arguments(self):
        for module, functions in ARGUMENTS.items():
            for name, arguments in functions.items():
                function = getattr(importlib.import_module(f"limitdesk.{module}"), name)
                self.assertTrue(inspect.isfunction(function), name)
                self.assertEqual(list(inspect.signature(function).parameters), arguments.split(), name)
                for parameter in inspect.signature(function).parameters.values():
                    self.assertIs(parameter.default, parameter.empty, name)
                    self.assertEqual(parameter.kind, parameter.POSITIONAL_OR_KEYWORD, name)

    def test_each_function_is_tried_below(self):
        tried = {call[0].__name__ for call in right_calls()}
        self.assertEqual(tried, {name for functions in ARGUMENTS.values() for name in functions})


class HandedInAndTold(DeskCase):
    def test_nothing_that_is_handed_in_is_changed(self):
        for call in right_calls():
            before = copy.deepcopy(call[1:])
            answered(call)
            self.assertEqual(call[1:], before, call)
            self.assertEqual(repr(call[1:]), repr(before), call)

    def test_lists_that_are_told_are_new_ones_each_time(self):
        for call in right_calls():
            before = copy.deepcopy(call[1:])
            first = answered(call)
            kept = copy.deepcopy(first)
            spoil(first)
            self.assertEqual(call[1:], before, call)
            self.assertEqual(answered(call), kept, call)

    def test_the_same_is_told_each_time(self):
        for call in right_calls():
            self.assertEqual(repr(answered(call)), repr(answered(copy.deepcopy(call))), call)

    def test_the_same_is_told_by_another_run(self):
        # Whatever the order of what Python hashes, which chance settles at each start.
        told = repr([answered(call) for call in right_calls()])
        line = "import test_interface as t; print(repr([t.answered(call) for call in t.right_calls()]))"
        for seed in ("1", "2"):
            run = subprocess.run(
                [sys.executable, "-c", line], cwd=TOP / "tests", capture_output=True, text=True,
                env={**os.environ, "PYTHONPATH": str(TOP), "PYTHONHASHSEED": seed, "PYTHONDONTWRITEBYTECODE": "1"})
            self.assertEqual(run.stdout.strip(), told, run.stderr)


class OfAnyKind(DeskCase):
    def bad_points(self, kinds):
        right = [(0, 1)] * kinds
        wrong = list(ANYTHING) + [tuple(right), right + [(0, 1)], [tuple(right)]]
        if kinds > 0:
            wrong.append(right[1:])
            wrong.extend([amount] + right[1:] for amount in NO_FRACTIONS + NOTHING_RIGHT)
        return wrong + [0, 1, "1"]

    def bad_goals(self, kinds):
        right = [0] * kinds
        wrong = [tuple(right), right + [0], right[1:], [right], [(0, 1)] * kinds]
        wrong.extend([number] + right[1:] for number in NOTHING_RIGHT)
        return list(ANYTHING) + wrong + [0, 1, "1"]

    def test_points(self):
        for desk in DESKS:
            for point in self.bad_points(desk[0]):
                self.assert_refused(BadPoint, broken, desk, point)
                self.assert_refused(BadPoint, just, desk, point)
            for kind in range(desk[0]):
                for point in self.bad_points(desk[0] - 1):
                    if point != []:
                        self.assert_refused(BadPoint, filled, desk, kind, point)

    def test_goals_go_ahead_of_no_point(self):
        for desk in DESKS:
            for goal in self.bad_goals(desk[0]):
                self.assert_refused(NoGoal, best, desk, goal)
                self.assert_refused(NoGoal, top, desk, goal)

    def test_places_and_kinds_go_ahead_of_all_else(self):
        for desk in DESKS:
            for wrong in NO_PLACES + ANYTHING + (desk[0], -desk[0]):
                self.assert_refused(NoPlace, stretch, desk, wrong)
                self.assert_refused(NoPlace, dropped, desk, wrong)
                for point in ([(0, 1)] * (desk[0] - 1), [(0, 1)] * desk[0], None, 0, [(2, 4)], ((0, 1),)):
                    self.assert_refused(NoPlace, filled, desk, wrong, point)
            for wrong in NO_PLACES + ANYTHING + (len(desk[1]), -len(desk[1]) - 1):
                self.assert_refused(NoPlace, cover, desk, wrong)
                self.assert_refused(NoPlace, needless, desk, wrong)

    def test_points_and_a_point(self):
        for kinds in range(1, 5):
            right = [(0, 1)] * kinds
            for wrong in self.bad_points(kinds):
                self.assert_refused(BadPoint, told_as, [right], wrong)
                self.assert_refused(BadPoint, told_as, [right] * 8, wrong)
                self.assert_refused(BadPoint, told_as, [wrong], right)
                self.assert_refused(BadPoint, told_as, [right, wrong], right)
                self.assert_refused(BadPoint, told_as, wrong, right)
                self.assert_refused(BadPoint, told_as, wrong, wrong)

    def test_tables(self):
        for wrong in ANYTHING:
            for table in (wrong, [wrong], [[1, 2], wrong], [[1, 2], [wrong, wrong]], [[wrong]]):
                self.assert_refused(NoTable, match, table)

    def test_lines(self):
        for wrong in ANYTHING + (0, 1, -1, 2, [1], ["1"], ("1", "2")):
            self.assert_refused(NoText, read, wrong)
            self.assert_refused(NoText, read_fraction, wrong)

    def test_true_and_false_are_no_numbers(self):
        for value in (True, False):
            for amount in ((value, 1), (1, value), (value, value)):
                self.assert_refused(BadPoint, broken, made(1, []), [amount])
                self.assert_refused(BadPoint, just, made(1, []), [amount])
                self.assert_refused(BadPoint, filled, made(2, []), 0, [amount])
                self.assert_refused(BadPoint, told_as, [[amount]], [(0, 1)])
                self.assert_refused(BadPoint, told_as, [[(0, 1)]], [amount])
            self.assert_refused(NoDesk, desk_of, value, [])
            self.assert_refused(NoDesk, desk_of, 1, [([value], 1)])
            self.assert_refused(NoDesk, desk_of, 1, [([1], value)])
            self.assert_refused(NoGoal, best, made(1, []), [value])
            self.assert_refused(NoGoal, top, made(1, []), [value])
            self.assert_refused(NoPlace, stretch, SQUARE, value)
            self.assert_refused(NoPlace, dropped, SQUARE, value)
            self.assert_refused(NoPlace, filled, SQUARE, value, [(0, 1)])
            self.assert_refused(NoPlace, cover, SQUARE, value)
            self.assert_refused(NoPlace, needless, SQUARE, value)
            self.assert_refused(NoTable, match, [[value]])

    def test_what_is_refused_is_not_changed(self):
        for wrong in ([True, (2, 4)], [[True], "x"], [[1, 2], [3]], [[(0, 1)], [(2, 2)]]):
            before = repr(wrong)
            for function, handed in ((broken, (SQUARE, wrong)), (filled, (FOUR, 0, wrong)), (best, (SQUARE, wrong)),
                                     (stretch, (SQUARE, wrong)), (told_as, (wrong, wrong)), (match, (wrong,)),
                                     (read, (wrong,))):
                self.assertRaises(ValueError, function, *handed)
                self.assertEqual(repr(wrong), before)


if __name__ == "__main__":
    unittest.main()
