"""Fractions and desks as texts."""

from limitdesk.desks import desk_of
from limitdesk.errors import NoDesk, NoText
from limitdesk.fracs import is_fraction

FIGURES = "0123456789"
MOST_FIGURES = 30


def shown_number(number):
    # Python writes numbers of some thousand figures and no greater ones, so the last figures are written by themselves.
    left = abs(number)
    pieces = []
    while left >= 10 ** 64:
        pieces.append(str(left % 10 ** 64).zfill(64))
        left = left // 10 ** 64
    sign = "-" if number < 0 else ""
    return sign + str(left) + "".join(reversed(pieces))


def shown_fraction(a):
    if a[1] == 1:
        return shown_number(a[0])
    return shown_number(a[0]) + "/" + shown_number(a[1])


def shown_limit(limit):
    weights = " ".join([shown_number(number) for number in limit[0]])
    return weights + " : " + shown_number(limit[1])


def shown(desk):
    return " ; ".join([shown_number(desk[0])] + [shown_limit(limit) for limit in desk[1]])


def check_text(line):
    if not isinstance(line, str):
        raise NoText("what is read is a text")


def read_number(written):
    figures = written[1:] if written.startswith("-") else written
    if len(figures) < 1 or len(figures) > MOST_FIGURES:
        raise NoText("a number has 1 to 30 figures")
    # There are other signs that Python takes for figures too.
    if not all([figure in FIGURES for figure in figures]):
        raise NoText("a number is written in figures")
    number = int(written)
    if shown_number(number) != written:
        raise NoText("a number has no nought ahead of other figures, and nought no sign")
    return number


def read_fraction(line):
    check_text(line)
    parts = line.split("/")
    upper = read_number(parts[0])
    if len(parts) == 1:
        return (upper, 1)
    if len(parts) > 2:
        raise NoText("a fraction is one number, or two with a / between")
    lower = read_number(parts[1])
    if lower == 1 or not is_fraction((upper, lower)):
        raise NoText("a lower number is above 1 and has no common divisor with the upper one")
    return (upper, lower)


def read_limit(written):
    parts = written.split(" : ")
    if len(parts) != 2:
        raise NoText("a limit is weights and a bound with a : between")
    return ([read_number(number) for number in parts[0].split(" ")], read_number(parts[1]))


def read(line):
    check_text(line)
    parts = line.split(" ; ")
    kinds = read_number(parts[0])
    limits = [read_limit(part) for part in parts[1:]]
    try:
        return desk_of(kinds, limits)
    except NoDesk as error:
        raise NoText("this is no desk that can be made") from error
