"""Fractions: tuples (upper, lower) of whole numbers, lower from 1 on, without a common divisor."""


def is_whole(value):
    # To Python True and False are whole numbers, here they are none.
    return isinstance(value, int) and not isinstance(value, bool)


def common_divisor(a, b):
    a = abs(a)
    b = abs(b)
    while b != 0:
        rest = a % b
        a = b
        b = rest
    return a


def is_fraction(value):
    if not isinstance(value, tuple) or len(value) != 2:
        return False
    if not is_whole(value[0]) or not is_whole(value[1]):
        return False
    return value[1] >= 1 and common_divisor(value[0], value[1]) == 1


def frac(upper, lower):
    if lower == 0:
        # Else a tuple that is no fraction would be told and spoil all that is reckoned with it.
        raise ZeroDivisionError("the lower number of a fraction is nought")
    divisor = common_divisor(upper, lower)
    if lower < 0:
        # By a divisor below nought the sign goes over to the upper number.
        divisor = -divisor
    return (upper // divisor, lower // divisor)


def plus(a, b):
    return frac(a[0] * b[1] + b[0] * a[1], a[1] * b[1])


def less(a, b):
    return frac(a[0] * b[1] - b[0] * a[1], a[1] * b[1])


def times(a, b):
    return frac(a[0] * b[0], a[1] * b[1])


def over(a, b):
    return frac(a[0] * b[1], a[1] * b[0])


def turned(a):
    return (-a[0], a[1])


def below(a, b):
    # Lower numbers are above nought, so both sides may be taken so often.
    return a[0] * b[1] < b[0] * a[1]
