"""What tests of desks have in common: the marks of each answer, by fractions of Python, and desks to try."""

import contextlib
import itertools
import random
import signal
import unittest
from fractions import Fraction
from math import ceil, floor, gcd, prod

from limitdesk.corners import corners
from limitdesk.desks import broken, desk_of, just
from limitdesk.dropping import dropped, filled
from limitdesk.errors import LimitError, NoPoint, TooMany
from limitdesk.goals import best, stretch, top
from limitdesk.judging import judged
from limitdesk.limits import cover, lean, needless, tight, well_within
from limitdesk.several import outside, within
from limitdesk.wholes import whole_points

MOST = 10 ** 12 - 1
MOST_SECONDS = 120
NO_PLACES = (-1, -10 ** 30, 10 ** 30, True, False, "0", "", None, 0.0, (0, 1), [0], (), [], {}, object(), Fraction(0))
NO_FRACTIONS = (
    1, 0, None, "1", "12", "", "ab", True, 1.5, Fraction(1, 2), [1, 2], [], (), (1,), (1, 2, 3), {}, {0: 1, 1: 2},
    object(), (2, 4), (0, 2), (3, 3), (-4, 6), (10 ** 30, 10 ** 29), (1, 0), (0, 0), (1, -1), (1, -2), (0, -1),
    (-1, -2), (True, 1), (1, True), (False, 1), (1, False), ("1", 1), (1, "1"), (None, 1), (1, None), (1.0, 1),
    (1, 1.0), ((1, 1), 1), (1, (1, 1)), ((1, 1), (1, 1)), (1, [1]),
)


def late(number, frame):
    raise AssertionError("no answer came in time")


class FractionCase(unittest.TestCase):
    def plain(self, told):
        self.assertIs(type(told), tuple)
        self.assertEqual(len(told), 2)
        self.assertIs(type(told[0]), int)
        self.assertIs(type(told[1]), int)
        self.assertGreaterEqual(told[1], 1)
        self.assertEqual(gcd(told[0], told[1]), 1)
        return Fraction(told[0], told[1])


class DeskCase(FractionCase):
    def setUp(self):
        # A test whose steps come round for ever is to fail, not to hang.
        before = signal.signal(signal.SIGALRM, late)
        self.addCleanup(signal.signal, signal.SIGALRM, before)
        self.addCleanup(signal.alarm, 0)
        signal.alarm(MOST_SECONDS)

    @contextlib.contextmanager
    def seconds(self, count):
        signal.alarm(count)
        yield
        signal.alarm(MOST_SECONDS)

    def assert_refused(self, error, function, *handed):
        with self.subTest(function=function, handed=handed):
            for kind in (error, LimitError, ValueError):
                self.assertRaises(kind, function, *handed)

    def plain_list(self, told, length):
        self.assertIs(type(told), list)
        self.assertEqual(len(told), length)
        return [self.plain(fraction) for fraction in told]

    def rooms(self, desk, point):
        amounts = self.plain_list(point, desk[0])
        return [bound - plain_weight(weights, amounts) for weights, bound in desk[1]]

    def assert_point(self, desk, point):
        self.assertTrue(all(room >= 0 for room in self.rooms(desk, point)), (desk, point))

    def summed(self, desk, shares):
        """The weights and the bound to which the limits come by the shares."""
        often = self.plain_list(shares, len(desk[1]))
        self.assertTrue(all(share >= 0 for share in often), (desk, shares))
        weights = [sum(s * limit[0][kind] for s, limit in zip(often, desk[1])) for kind in range(desk[0])]
        return weights, sum(s * limit[1] for s, limit in zip(often, desk[1]))

    def assert_clash(self, desk, shares):
        weights, bound = self.summed(desk, shares)
        self.assertEqual(weights, [0] * desk[0], (desk, shares))
        self.assertLess(bound, 0, (desk, shares))

    def told_kind(self, told, lengths):
        self.assertIs(type(told), tuple)
        self.assertIn(told[0], lengths)
        self.assertEqual(len(told), lengths[told[0]])
        return told[0]

    def assert_judged(self, desk):
        told = judged(desk)
        kind = self.told_kind(told, {"point": 2, "clash": 2})
        if kind == "point":
            self.assert_point(desk, told[1])
        else:
            self.assert_clash(desk, told[1])
        return kind

    def assert_best(self, desk, goal):
        """The kind of the answer, and the best worth if there is one; each by its marks."""
        before = list(goal)
        told = best(desk, goal)
        self.assertEqual(goal, before)
        kind = self.told_kind(told, {"best": 3, "endless": 3, "clash": 2})
        if kind == "clash":
            self.assert_clash(desk, told[1])
            return kind, None
        self.assert_point(desk, told[1])
        if kind == "best":
            worth = plain_weight(goal, self.plain_list(told[1], desk[0]))
            self.assertEqual(self.summed(desk, told[2]), (goal, worth), (desk, goal, told))
            return kind, worth
        way = self.plain_list(told[2], desk[0])
        self.assertTrue(all(plain_weight(weights, way) <= 0 for weights, bound in desk[1]), (desk, goal, told))
        self.assertGreater(plain_weight(goal, way), 0, (desk, goal, told))
        return kind, None

    def assert_cover(self, desk, place):
        told = cover(desk, place)
        kind = self.told_kind(told, {"shares": 2, "clash": 2, "point": 2})
        weights, bound = desk[1][place]
        if kind == "point":
            rooms = self.rooms(desk, told[1])
            self.assertLess(rooms.pop(place), 0, (desk, place, told))
            self.assertTrue(all(room >= 0 for room in rooms), (desk, place, told))
            return kind
        self.assertEqual(told[1][place], (0, 1), (desk, place, told))
        if kind == "clash":
            self.assert_clash(desk, told[1])
            return kind
        come_to = self.summed(desk, told[1])
        self.assertEqual(come_to[0], list(weights), (desk, place, told))
        self.assertLessEqual(come_to[1], bound, (desk, place, told))
        return kind

    def assert_goal(self, desk, goal):
        """What best and top tell, by its marks."""
        kind, worth = self.assert_best(desk, goal)
        before = list(goal)
        if kind == "clash":
            self.assertRaises(NoPoint, top, desk, goal)
        elif kind == "endless":
            self.assertIsNone(top(desk, goal))
        else:
            self.assertEqual(self.plain(top(desk, goal)), worth)
        self.assertEqual(goal, before)
        return kind

    def plain_ends(self, desk, kind):
        """The ends of the stretch by the marks of what is best, None if the limits clash."""
        up = [1 if k == kind else 0 for k in range(desk[0])]
        ends = []
        for sign in (-1, 1):
            told, worth = self.assert_best(desk, [sign * number for number in up])
            if told == "clash":
                return None
            ends.append(None if told == "endless" else sign * worth)
        return ends

    def assert_stretch(self, desk, kind):
        ends = self.plain_ends(desk, kind)
        if ends is None:
            self.assertRaises(NoPoint, stretch, desk, kind)
        else:
            self.assert_ends(desk, kind, ends)

    def assert_ends(self, desk, kind, ends):
        told = stretch(desk, kind)
        self.assertIs(type(told), tuple)
        self.assertEqual(len(told), 2)
        self.assertEqual([None if end is None else self.plain(end) for end in told], list(ends), (desk, kind))

    def assert_needless(self, desk, place):
        """What cover and needless tell, by its marks."""
        kind = self.assert_cover(desk, place)
        self.assertIs(needless(desk, place), kind != "point")
        return kind

    def assert_lean(self, desk):
        left = desk
        place = 0
        while place < len(left[1]):
            if self.assert_cover(left, place) == "point":
                place += 1
            else:
                left = (left[0], left[1][:place] + left[1][place + 1:])
        told = lean(desk)
        self.assertIs(type(told), tuple)
        self.assertIs(type(told[1]), tuple)
        self.assertEqual(told, left)
        for place in range(len(told[1])):
            self.assertEqual(self.assert_needless(told, place), "point")

    def assert_tight(self, desk):
        if self.assert_judged(desk) == "clash":
            self.assertRaises(NoPoint, tight, desk)
            self.assertRaises(NoPoint, well_within, desk)
            return None
        wanted = []
        for place, (weights, bound) in enumerate(desk[1]):
            kind, worth = self.assert_best(desk, [-number for number in weights])
            if kind == "best" and worth == -bound:
                wanted.append(place)
        told = tight(desk)
        self.assertIs(type(told), list)
        self.assertEqual(told, wanted, desk)
        rooms = self.rooms(desk, well_within(desk))
        self.assertEqual([place for place, room in enumerate(rooms) if room == 0], wanted, desk)
        self.assertTrue(all(room >= 0 for room in rooms), desk)
        return wanted

    def assert_kept(self, desk, point):
        rooms = self.rooms(desk, point)
        self.assertEqual(broken(desk, point), [place for place, room in enumerate(rooms) if room < 0], (desk, point))
        self.assertEqual(just(desk, point), [place for place, room in enumerate(rooms) if room == 0], (desk, point))

    def assert_desk(self, told, kinds):
        self.assertIs(type(told), tuple)
        self.assertEqual(len(told), 2)
        self.assertIs(type(told[0]), int)
        self.assertEqual(told[0], kinds)
        self.assertIs(type(told[1]), tuple)
        for limit in told[1]:
            self.assertIs(type(limit), tuple)
            self.assertEqual(len(limit), 2)
            self.assertIs(type(limit[0]), tuple)
            self.assertEqual(len(limit[0]), kinds)
            self.assertEqual([type(number) for number in limit[0] + limit[1:]], [int] * (kinds + 1))

    def assert_holds(self, desk, weights, bound):
        """Each point of the desk keeps the limit: seen by prices or by a clash."""
        kind, worth = self.assert_best(desk, list(weights))
        if kind != "clash":
            self.assertEqual(kind, "best", (desk, weights, bound))
            self.assertLessEqual(worth, bound, (desk, weights, bound))

    def assert_filled(self, desk, kind, point):
        """Whether an amount can be put into the point; filled is to tell such a one, or None."""
        before = list(point)
        told = filled(desk, kind, point)
        self.assertEqual(point, before)
        if not has_room(desk, kind, self.plain_list(point, desk[0] - 1)):
            self.assertIsNone(told, (desk, kind, point))
            return False
        self.assertIsNotNone(told, (desk, kind, point))
        self.assert_point(desk, point[:kind] + [told] + point[kind:])
        return True

    def assert_dropped(self, desk, kind):
        """What dropped tells: its limits hold for the first desk, and what the first desk asks holds for it."""
        told = dropped(desk, kind)
        self.assert_desk(told, desk[0] - 1)
        for weights, bound in told[1]:
            self.assert_holds(desk, weights[:kind] + (0,) + weights[kind:], bound)
        for weights, bound in limits_on_others(desk, kind):
            self.assert_holds(told, weights, bound)
        return told

    def assert_filled_as_dropped(self, desk, kind, told, seed):
        """A point keeps all limits of the told desk just where an amount can be put in; how often so and how not."""
        counts = [0, 0]
        for point in points_to_put_into(desk, kind, told, seed):
            self.assert_kept(told, point)
            keeps = all(room >= 0 for room in self.rooms(told, point))
            self.assertIs(self.assert_filled(desk, kind, point), keeps, (desk, kind, told, point))
            counts[keeps] += 1
        return counts

    def assert_outside(self, one, other):
        """What outside and within tell, by its marks."""
        told = outside(one, other)
        self.assertIs(within(one, other), told is None, (one, other))
        if told is None:
            for weights, bound in other[1]:
                self.assert_holds(one, weights, bound)
            return True
        self.assert_point(one, told)
        self.assertTrue(any(room < 0 for room in self.rooms(other, told)), (one, other, told))
        return False

    def assert_corners(self, desk):
        """What corners tells, each choice of as many limits as kinds gone through; how many they are."""
        if desk[0] > 3 or len(desk[1]) > 12:
            self.assertRaises(TooMany, corners, desk)
            return None
        told = corners(desk)
        self.assertIs(type(told), list)
        self.assertEqual([self.plain_list(point, desk[0]) for point in told], plain_corners(desk), desk)
        return len(told)

    def assert_whole_points(self, desk):
        """What whole_points tells, all whole numbers in the stretches gone through; how many they are."""
        ends = [self.plain_ends(desk, kind) for kind in range(desk[0])]
        wanted = [] if None in ends else plain_whole_points(desk, ends)
        if wanted is None:
            self.assertRaises(TooMany, whole_points, desk)
            return None
        told = whole_points(desk)
        self.assertIs(type(told), list)
        for point in told:
            self.assertIs(type(point), list)
            self.assertEqual([type(number) for number in point], [int] * desk[0], desk)
        self.assertEqual(told, wanted, desk)
        return len(told)


def has_room(desk, kind, amounts):
    """Whether some amount of the kind can be put in, by what each limit leaves to it."""
    rooms = [bound - plain_weight(others(weights, kind), amounts) for weights, bound in desk[1]]
    numbers = [weights[kind] for weights, bound in desk[1]]
    if any(number == 0 and room < 0 for number, room in zip(numbers, rooms)):
        return False
    ends = [room / number for number, room in zip(numbers, rooms) if number > 0]
    starts = [room / number for number, room in zip(numbers, rooms) if number < 0]
    return not ends or not starts or max(starts) <= min(ends)


def others(numbers, kind):
    return numbers[:kind] + numbers[kind + 1:]


def limits_on_others(desk, kind):
    """What the desk asks of the other kinds: the limits that don't weigh the kind, and each two that bound it."""
    told = [(others(weights, kind), bound) for weights, bound in desk[1] if weights[kind] == 0]
    for (over, over_bound), (under, under_bound) in itertools.product(desk[1], repeat=2):
        if over[kind] > 0 > under[kind]:
            weights = tuple(over[kind] * u - under[kind] * o for o, u in zip(over, under))
            told.append((others(weights, kind), over[kind] * under_bound - under[kind] * over_bound))
    return told


def pair(number):
    return (Fraction(number).numerator, Fraction(number).denominator)


def nudged(point, goal, step):
    return [pair(Fraction(*amount) + step * number) for amount, number in zip(point, goal)]


def points_to_put_into(desk, kind, told, seed):
    """Points of the other kinds: some by chance, and such as lie in and about the desk told of them."""
    chance = random.Random(seed)
    points = [[pair(Fraction(chance.randint(-6, 6), chance.randint(1, 3))) for k in range(told[0])] for j in range(3)]
    for goal in goals_for(told, seed)[1:]:
        answer = best(told, goal)
        if answer[0] != "clash":
            points.extend(nudged(answer[1], goal, Fraction(step, 10 ** 40)) for step in (-1, 0, 1))
    for goal in goals_for(desk, seed)[1:3]:
        answer = best(desk, goal)
        if answer[0] != "clash":
            points.append(others(answer[1], kind))
    covers = [cover(told, place) for place in range(len(told[1]))]
    return points + [answer[1] for answer in covers if answer[0] == "point"]


def solved(rows, bounds):
    """The one point whose weights by the rows are the bounds; None if there is none or more than one."""
    rows = [[Fraction(number) for number in row] + [Fraction(bound)] for row, bound in zip(rows, bounds)]
    for column in range(len(rows)):
        pivots = [row for row in rows[column:] if row[column] != 0]
        if not pivots:
            return None
        rows.remove(pivots[0])
        line = [number / pivots[0][column] for number in pivots[0]]
        rows = [[a - row[column] * b for a, b in zip(row, line)] for row in rows]
        rows.insert(column, line)
    return [row[-1] for row in rows]


def plain_corners(desk):
    found = set()
    for choice in itertools.combinations(desk[1], desk[0]):
        point = solved([weights for weights, bound in choice], [bound for weights, bound in choice])
        if point is not None and all(plain_weight(weights, point) <= bound for weights, bound in desk[1]):
            found.add(tuple(point))
    return [list(point) for point in sorted(found)]


def plain_whole_points(desk, ends):
    """None, if there are too many to go through."""
    if any(None in pair_of_ends for pair_of_ends in ends):
        return None
    ranges = [(ceil(least), floor(greatest) + 1) for least, greatest in ends]
    count = prod(stop - start for start, stop in ranges)
    if count > 400:
        return None
    points = itertools.product(*[range(*each) for each in ranges]) if count else ()
    return [list(point) for point in points
            if all(plain_weight(weights, point) <= bound for weights, bound in desk[1])]


def plain_weight(weights, amounts):
    return sum((number * amount for number, amount in zip(weights, amounts)), Fraction(0))


def spoil(told):
    """Changes every list in an answer."""
    if isinstance(told, (list, tuple)):
        for part in told:
            spoil(part)
    if isinstance(told, list):
        told.append("spoilt")
        told[0] = "spoilt"


def made(kinds, rows):
    """The desk of rows, each the weights and behind them the bound."""
    return desk_of(kinds, [(list(row[:-1]), row[-1]) for row in rows])


def rows_by_chance(chance, count, length, most):
    return [[chance.randint(-most, most) for number in range(length)] for row in range(count)]


def desks_by_chance(seed, each, most, bounds=None):
    """Desks of every number of kinds and limits, numbers up to most of either sign, bounds those that are handed in."""
    chance = random.Random(seed)
    desks = []
    for kinds, count in itertools.product(range(1, 5), range(11)):
        for k in range(each):
            rows = rows_by_chance(chance, count, kinds + 1, most)
            if bounds is not None:
                rows = [row[:-1] + [chance.randint(bounds[0], bounds[1])] for row in rows]
            desks.append(made(kinds, rows))
    return desks


def desks_through_a_point(seed, each):
    """Desks whose limits are all just at one point, some of them turned round or there twice."""
    chance = random.Random(seed)
    desks = []
    for kinds, count in itertools.product(range(1, 5), range(1, 11)):
        for k in range(each):
            point = [chance.randint(-2, 2) for kind in range(kinds)]
            rows = []
            for place in range(count):
                weights = [chance.randint(-2, 2) for kind in range(kinds)]
                if rows and chance.random() < 0.3:
                    weights = [chance.choice((-1, 1)) * number for number in chance.choice(rows)[:-1]]
                rows.append(weights + [sum(w * x for w, x in zip(weights, point))])
            desks.append(made(kinds, rows))
    return desks


def desks_of_few_numbers():
    """Every desk of two kinds and up to three limits with numbers from -1 to 1, but for the order of the limits."""
    limits = list(itertools.product((-1, 0, 1), repeat=3))
    return [made(2, rows) for count in range(4) for rows in itertools.combinations_with_replacement(limits, count)]


def least_clashes():
    """Desks whose limits clash, and no longer when one of them is away."""
    chance = random.Random(11)
    desks = [made(kinds, [[0] * kinds + [-1]]) for kinds in range(1, 5)]
    for kinds, most in itertools.product(range(1, 5), (3, 1000, 10 ** 10)):
        for count in range(1, kinds + 1):
            rows = rows_by_chance(chance, count, kinds + 1, most)
            while rank([row[:-1] for row in rows]) < count:
                rows = rows_by_chance(chance, count, kinds + 1, most)
            often = [chance.randint(1, 9) for row in rows]
            last = [-sum(s * row[k] for s, row in zip(often, rows)) for k in range(kinds + 1)]
            last[-1] -= chance.randint(1, 5)
            rows.insert(chance.randint(0, count), last)
            desks.append(made(kinds, rows))
    return desks


def rank(rows):
    rows = [[Fraction(number) for number in row] for row in rows]
    found = 0
    for column in range(len(rows[0])):
        pivots = [k for k in range(found, len(rows)) if rows[k][column] != 0]
        if pivots:
            rows[found], rows[pivots[0]] = rows[pivots[0]], rows[found]
            for k in range(found + 1, len(rows)):
                often = rows[k][column] / rows[found][column]
                rows[k] = [a - often * b for a, b in zip(rows[k], rows[found])]
            found += 1
    return found


def desks_beyond():
    """Desks with more limits and greater numbers than desk_of makes."""
    chance = random.Random(12)
    desks = []
    for kinds, count, most in itertools.product(range(1, 5), (11, 30), (3, 10 ** 30)):
        for lowest in (-most, 0):
            limits = []
            for place in range(count):
                weights = tuple(chance.randint(-most, most) for kind in range(kinds))
                limits.append((weights, chance.randint(lowest, 2 * most)))
            desks.append((kinds, tuple(limits)))
    return desks


def no_amount_below(often):
    """Rows of limits by which no amount is below nought, each taken so often."""
    return tuple(tuple(-often if k == kind else 0 for k in range(5)) for kind in range(4))


# By other choices of steps than the first thing by number these come round for ever. Each is rows and a goal.
ROUND = (
    # Beale, Kuhn, Chvatal, and Kuhn's without the bound.
    (no_amount_below(4) + ((1, -32, -4, 36, 0), (2, -48, -2, 12, 0), (0, 0, 4, 0, 4)), (3, -80, 2, -24)),
    (no_amount_below(3) + ((-6, -27, 3, 27, 0), (1, 3, -1, -6, 0), (6, 9, -3, -36, 6)), (2, 3, -1, -12)),
    (no_amount_below(2) + ((1, -11, -5, 18, 0), (1, -3, -1, 2, 0), (2, 0, 0, 0, 2)), (10, -57, -9, -24)),
    (no_amount_below(3) + ((-6, -27, 3, 27, 0), (1, 3, -1, -6, 0)), (2, 3, -1, -12)),
    # Found by trying many.
    (((1, 1, 0, 0, 0), (2, 1, 1, 1, 0), (0, 0, 1, -2, 0), (1, -1, 1, -1, 0), (2, 1, 1, -1, 0), (-2, 0, 1, 0, 0),
      (0, -1, 1, -2, 0), (1, -1, -2, -2, 0)), (2, 2, 2, 1)),
    (((6, 9, -16, 1, 0), (14, -11, -19, 6, 0), (7, -8, -20, -3, 0), (-9, 7, 8, 10, 0), (-1, -10, -1, 1, 0),
      (-12, -20, 20, 1, 0), (19, -11, 8, 0, 0)), (9, 4, -16, 0)),
    (no_amount_below(1) + ((-2, 1, 2, -1, 0), (-1, 1, -2, 2, 0), (0, 1, -1, -2, 0), (2, -1, 1, 0, 0)), (-1, 2, 1, 0)),
    (no_amount_below(1) + ((-4, 1, -2, 3, 0), (2, 0, 1, 1, 0), (3, 3, 1, -5, 0)), (1, -2, 1, 0)),
    (((-4, -4, -5, 2, 0), (-5, 0, 0, -5, 0), (-4, -1, 4, 1, 0), (3, -2, 3, -4, 0), (4, 2, 4, -4, 0), (-3, -1, 2, 3, 0),
      (3, -5, 1, -5, 0), (4, 1, -1, -3, 0), (-3, -3, -3, -3, 0), (0, -2, 3, -2, 0)), (3, 0, 5, 1)),
    # These come round on the way to a first point.
    (((-1, 0, 0, 0, -2), (0, -1, 0, 0, 2), (0, 0, -1, 0, -1), (0, 0, 0, -1, 3), (-3, 5, 3, 2, -4), (-1, -2, -3, 3, -2),
      (4, -5, 1, 3, 1), (3, -2, -5, -1, -2)), (1, 1, 1, 1)),
    (((1, -2, 1, -1, -2), (-1, -1, 1, 2, 0), (2, 1, 1, -2, 1), (2, 2, 0, 1, -1), (0, 1, -1, 1, 2), (-1, -1, -2, 1, -1),
      (-2, -2, -2, 1, 0), (-1, 0, -1, 1, 1), (0, 2, 1, -1, 2), (1, 2, 1, 1, 2)), (1, 1, 1, 1)),
    (((1, 0, -1, -2, 0), (-2, 0, 1, -2, 2), (1, -2, 0, 0, 2), (2, 0, 0, 1, -1), (-2, -1, -2, 0, -2), (2, 2, 0, 0, 2),
      (0, -1, 2, -1, -1), (0, 1, -1, 1, 2), (2, -2, 1, 1, 2), (1, 2, 0, 0, -2)), (1, 1, 1, 1)),
    (((-1, 0, 0, 0, -9), (0, -1, 0, 0, -1), (0, 0, -1, 0, 18), (0, 0, 0, -1, -2), (-18, -2, -13, -7, -14),
      (18, -19, -18, -18, -4), (-2, -19, -9, 14, 7), (12, -6, -12, 19, -16)), (1, 1, 1, 1)),
)


def desks_that_come_round():
    """Tuples of a desk and a goal, the limits in several orders."""
    told = []
    for limits, goal in ROUND:
        for turn in range(len(limits)):
            moved = limits[turn:] + limits[:turn]
            told.append((made(4, moved), list(goal)))
            told.append((made(4, moved[::-1]), list(goal)))
    return told


def hard_desks():
    """Desks of 4 kinds and 10 limits or nearly, at which many limits meet."""
    signs = list(itertools.product((-1, 1), repeat=4))
    desks = [
        made(4, [list(row) + [0] for row in signs[:10]]),
        made(4, [list(row) + [1] for row in signs[6:]]),
        made(4, [list(row) + [-1] for row in signs[3:13]]),
        made(4, [[1, 1, 1, 1, 1]] * 5 + [[-1, -1, -1, -1, -1]] * 5),
        made(4, [[1, 1, 1, 1, 1]] * 5 + [[-1, -1, -1, -1, -2]] * 5),
        made(4, [[MOST, -MOST, MOST - 1, 1 - MOST, 0], [-MOST, MOST, 1 - MOST, MOST - 1, 0]] * 5),
        made(4, [[MOST - k * k, MOST - k, k - MOST, k ** 3, 0] for k in range(10)]),
        made(4, [[MOST - k * k, MOST - k, k - MOST, k ** 3, -1] for k in range(10)]),
        # A cube pressed out of shape, on which many steps lead from corner to corner.
        made(4, [[-1, 0, 0, 0, 0], [0, -1, 0, 0, 0], [0, 0, -1, 0, 0], [0, 0, 0, -1, 0], [1, 0, 0, 0, 5],
                 [4, 1, 0, 0, 25], [8, 4, 1, 0, 125], [16, 8, 4, 1, 625]]),
        made(4, [[1, 2, 3, 4, 5], [-1, -2, -3, -4, -5], [1, 1, 0, 0, 1], [-1, -1, 0, 0, -1], [0, 1, 3, 4, 4],
                 [0, -1, -3, -4, -4], [1, 0, 0, 1, 1], [0, 0, -1, 0, 0], [0, 0, 1, 0, 0], [0, 0, 0, 0, 0]]),
    ]
    return desks + [desk for desk, goal in desks_that_come_round()]


def all_desks():
    return (
        desks_by_chance(1, 3, 2) + desks_by_chance(2, 2, 9, (0, 9)) + desks_by_chance(3, 1, MOST)
        + desks_by_chance(4, 1, MOST, (-10, MOST)) + desks_through_a_point(5, 2) + least_clashes() + hard_desks()
        + desks_beyond()
    )


def goals_for(desk, seed):
    """Goals of noughts, of small and of great numbers, and such as come from the limits."""
    kinds, limits = desk
    chance = random.Random(seed)
    goals = [[0] * kinds, [chance.randint(-2, 2) for kind in range(kinds)],
             [chance.choice((-MOST, MOST, chance.randint(-MOST, MOST))) for kind in range(kinds)]]
    if limits:
        taken = [chance.choice(limits) for k in range(3)]
        goals.append([sum(limit[0][kind] for limit in taken) for kind in range(kinds)])
        goals.append([-number for number in taken[0][0]])
    return goals
