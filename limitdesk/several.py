"""Whether a desk lies within another one."""

from limitdesk.desks import weight
from limitdesk.errors import Unlike
from limitdesk.fracs import below
from limitdesk.goals import best
from limitdesk.limits import point_beyond


def point_past(desk, limit):
    # A point of the desk that does not keep the limit, or None if each one keeps it.
    told = best(desk, list(limit[0]))
    if told[0] == "endless":
        return point_beyond(limit, told[1], told[2])
    if told[0] == "best" and below((limit[1], 1), weight(limit[0], told[1])):
        return told[1]
    return None


def outside(one, other):
    if one[0] != other[0]:
        raise Unlike("desks of as many kinds lie within one another")
    for limit in other[1]:
        point = point_past(one, limit)
        if point is not None:
            return point
    return None


def within(one, other):
    return outside(one, other) is None
