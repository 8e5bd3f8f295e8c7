"""A desk without one of its kinds, and amounts of that kind to put into points of the others."""

from limitdesk.desks import check_place, check_point, weight
from limitdesk.errors import NoPlace
from limitdesk.fracs import below, common_divisor, frac, less
from limitdesk.judging import judged
from limitdesk.limits import lean


def others(weights, kind):
    return weights[:kind] + weights[kind + 1:]


def joined(upper, lower, kind):
    # The first limit bounds the kind from above, the second from below. Each is taken so often that the kind falls
    # out: what is left says that there is room for an amount between both.
    often = -lower[0][kind]
    as_often = upper[0][kind]
    weights = [often * a + as_often * b for a, b in zip(upper[0], lower[0])]
    return (others(weights, kind), often * upper[1] + as_often * lower[1])


def limits_left(limits, kind):
    left = [(others(limit[0], kind), limit[1]) for limit in limits if limit[0][kind] == 0]
    uppers = [limit for limit in limits if limit[0][kind] > 0]
    lowers = [limit for limit in limits if limit[0][kind] < 0]
    for upper in uppers:
        left.extend([joined(upper, lower, kind) for lower in lowers])
    return left


def divisor_of(weights):
    divisor = 0
    for number in weights:
        divisor = common_divisor(divisor, number)
    # Any number divides noughts.
    return max(divisor, 1)


def least_bounds(limits):
    # Of limits that have the same weights, but for how often they are taken, only the least bound matters. Without
    # this, kinds that are dropped one after another would leave far more limits to judge, and greater numbers.
    bounds = {}
    for limit in limits:
        divisor = divisor_of(limit[0])
        weights = tuple([number // divisor for number in limit[0]])
        bound = frac(limit[1], divisor)
        if weights not in bounds or below(bound, bounds[weights]):
            bounds[weights] = bound
    return bounds


def whole_limit(weights, bound):
    return (tuple([number * bound[1] for number in weights]), bound[0])


def dropped(desk, kind):
    check_place(desk[0], kind)
    if desk[0] == 1:
        raise NoPlace("a desk of one kind has no kinds but that")
    # A needless limit would be joined with many others, so it is taken out before, not only after.
    bounds = least_bounds(limits_left(lean(desk)[1], kind))
    return lean((desk[0] - 1, tuple([whole_limit(weights, bounds[weights]) for weights in bounds])))


def left_to_kind(limit, kind, point):
    # What the limit says of the kind alone, if the other amounts are those of the point.
    room = less((limit[1], 1), weight(others(limit[0], kind), point))
    return ((limit[0][kind] * room[1],), room[0])


def filled(desk, kind, point):
    check_place(desk[0], kind)
    check_point(desk[0] - 1, point)
    told = judged((1, tuple([left_to_kind(limit, kind, point) for limit in desk[1]])))
    return told[1][0] if told[0] == "point" else None
