"""Mixes of points by shares, and splits of points from one that is no mix of them."""

from limitdesk.desks import MOST_KINDS, check_point
from limitdesk.errors import BadPoint
from limitdesk.fracs import common_divisor, frac, times
from limitdesk.goals import best
from limitdesk.limits import moved

MOST_POINTS = 8


def check_points(points):
    if not isinstance(points, list) or len(points) < 1 or len(points) > MOST_POINTS:
        raise BadPoint("points are a list of 1 to 8")
    if not isinstance(points[0], list) or len(points[0]) < 1 or len(points[0]) > MOST_KINDS:
        raise BadPoint("points are lists of 1 to 4 amounts")
    for point in points:
        check_point(len(points[0]), point)


def mix(points, shares):
    amounts = [(0, 1)] * len(points[0])
    for point, share in zip(points, shares):
        amounts = moved(amounts, point, share)
    return amounts


def whole_row(point):
    # The amounts and -1, all taken so often that they are whole.
    often = 1
    for amount in point:
        often = often * (amount[1] // common_divisor(often, amount[1]))
    return [amount[0] * (often // amount[1]) for amount in point] + [-often]


def told_as(points, point):
    check_points(points)
    check_point(len(points[0]), point)
    # A desk whose amounts are the weights and the bound of a split: the weight of each of the points, less the bound,
    # is at most nought. The goal is the same of the one more. An endless way is a split; else nought is best, and the
    # prices are shares, but for how often the rows and the goal are taken.
    rows = [whole_row(each) for each in points]
    goal = whole_row(point)
    told = best((len(goal), tuple([(tuple(row), 0) for row in rows])), goal)
    if told[0] == "endless":
        return ("split", told[2][:-1], told[2][-1])
    return ("mix", [times(price, frac(row[-1], goal[-1])) for price, row in zip(told[2], rows)])
