"""Whether a desk has a point: one of its points, or a clash of its limits."""

from limitdesk.boards import clash_of, point_of, settled
from limitdesk.errors import NoPoint


def judged(desk):
    told = settled(desk, [0] * desk[0])
    if told[1] is None:
        return ("point", point_of(told[0]))
    return ("clash", clash_of(told[0], told[1]))


def some_point(desk):
    told = judged(desk)
    if told[0] == "clash":
        raise NoPoint("the limits of the desk clash")
    return told[1]
