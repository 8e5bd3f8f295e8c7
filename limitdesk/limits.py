"""Limits that are needless, limits that are tight, and the lean desk."""

from limitdesk.desks import check_place, just, weight
from limitdesk.fracs import below, less, over, plus, times
from limitdesk.goals import best
from limitdesk.judging import some_point


def without(desk, place):
    return (desk[0], desk[1][:place] + desk[1][place + 1:])


def with_nought(shares, place):
    return shares[:place] + [(0, 1)] + shares[place:]


def moved(point, way, often):
    return [plus(amount, times(often, step)) for amount, step in zip(point, way)]


def point_beyond(limit, point, way):
    room = less((limit[1], 1), weight(limit[0], point))
    if below(room, (0, 1)):
        return point
    # So often the way uses up the room, and once more goes beyond it.
    often = plus(over(room, weight(limit[0], way)), (1, 1))
    return moved(point, way, often)


def cover(desk, place):
    check_place(len(desk[1]), place)
    limit = desk[1][place]
    told = best(without(desk, place), list(limit[0]))
    if told[0] == "clash":
        return ("clash", with_nought(told[1], place))
    if told[0] == "endless":
        return ("point", point_beyond(limit, told[1], told[2]))
    if below((limit[1], 1), weight(limit[0], told[1])):
        return ("point", told[1])
    return ("shares", with_nought(told[2], place))


def needless(desk, place):
    return cover(desk, place)[0] != "point"


def lean(desk):
    place = 0
    while place < len(desk[1]):
        if needless(desk, place):
            desk = without(desk, place)
        else:
            # It stays so when others are taken out: the point that shows it keeps those that are left.
            place = place + 1
    return desk


def keeps_just(limit, point):
    return weight(limit[0], point) == (limit[1], 1)


def roomiest(desk, limit):
    # A point of the desk that keeps the limit well, unless it is tight.
    told = best(desk, [-number for number in limit[0]])
    if told[0] == "endless":
        return moved(told[1], told[2], (1, 1))
    return told[1]


def halfway(one, other):
    return [times((1, 2), plus(a, b)) for a, b in zip(one, other)]


def well_within(desk):
    point = some_point(desk)
    for limit in desk[1]:
        if keeps_just(limit, point):
            other = roomiest(desk, limit)
            if not keeps_just(limit, other):
                # Halfway between two points of the desk all is kept well that one of them keeps well.
                point = halfway(point, other)
    return point


def tight(desk):
    return just(desk, well_within(desk))
