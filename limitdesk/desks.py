"""Desks, points, and which limits of a desk a point keeps."""

from limitdesk.errors import BadPoint, NoDesk, NoPlace
from limitdesk.fracs import below, frac, is_fraction, is_whole, plus

MOST_KINDS = 4
MOST_LIMITS = 10
GREATEST_NUMBER = 999999999999


def is_number(value):
    return is_whole(value) and abs(value) <= GREATEST_NUMBER


def limit_of(kinds, limit):
    if not isinstance(limit, tuple) or len(limit) != 2:
        raise NoDesk("a limit is a tuple of weights and a bound")
    weights = limit[0]
    bound = limit[1]
    if not isinstance(weights, list) or len(weights) != kinds:
        raise NoDesk("weights are a list with one number for each kind")
    if not all([is_number(number) for number in weights]):
        raise NoDesk("a weight is a whole number of at most 12 figures")
    if not is_number(bound):
        raise NoDesk("a bound is a whole number of at most 12 figures")
    return (tuple(weights), bound)


def desk_of(kinds, limits):
    if not is_whole(kinds) or kinds < 1 or kinds > MOST_KINDS:
        raise NoDesk("kinds are a whole number from 1 to 4")
    if not isinstance(limits, list) or len(limits) > MOST_LIMITS:
        raise NoDesk("limits are a list of at most 10")
    return (kinds, tuple([limit_of(kinds, limit) for limit in limits]))


def check_point(kinds, point):
    if not isinstance(point, list) or len(point) != kinds:
        raise BadPoint("a point is a list with one fraction for each kind")
    if not all([is_fraction(amount) for amount in point]):
        raise BadPoint("an amount is a fraction without a common divisor, its lower number from 1 on")


def check_place(count, place):
    if not is_whole(place) or place < 0 or place >= count:
        raise NoPlace("a place is a whole number from 0 to below how many there are")


def weight(weights, point):
    total = (0, 1)
    for number, amount in zip(weights, point):
        total = plus(total, frac(number * amount[0], amount[1]))
    return total


def broken(desk, point):
    check_point(desk[0], point)
    return [place for place, limit in enumerate(desk[1]) if below((limit[1], 1), weight(limit[0], point))]


def just(desk, point):
    check_point(desk[0], point)
    return [place for place, limit in enumerate(desk[1]) if weight(limit[0], point) == (limit[1], 1)]
