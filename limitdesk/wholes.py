"""The whole points of a desk."""

from limitdesk.desks import broken
from limitdesk.errors import TooMany
from limitdesk.goals import stretch
from limitdesk.judging import judged

MOST_POINTS = 400


def whole_stretch(desk, kind):
    # The least whole number in the stretch, and how many there are.
    ends = stretch(desk, kind)
    if ends[0] is None or ends[1] is None:
        raise TooMany("a stretch of the desk has no end")
    # A division goes down to the next whole number, so what is to go up is turned before it and after it.
    least = -(-ends[0][0] // ends[0][1])
    greatest = ends[1][0] // ends[1][1]
    return (least, greatest - least + 1)


def count_of(stretches):
    count = 1
    for each in stretches:
        count = count * each[1]
    return count


def point_at(stretches, number):
    # The last amount changes from number to number, those ahead of it more seldom: so points rise as numbers do.
    point = []
    for each in reversed(stretches):
        point = [each[0] + number % each[1]] + point
        number = number // each[1]
    return point


def keeps_all(desk, point):
    return broken(desk, [(amount, 1) for amount in point]) == []


def whole_points(desk):
    if judged(desk)[0] == "clash":
        return []
    stretches = [whole_stretch(desk, kind) for kind in range(desk[0])]
    count = count_of(stretches)
    if count > MOST_POINTS:
        raise TooMany("whole points are gone through if the stretches make up at most 400")
    points = [point_at(stretches, number) for number in range(count)]
    return [point for point in points if keeps_all(desk, point)]
