import itertools
import random
import re
import unittest
from fractions import Fraction
from math import gcd

from desk_case import DeskCase, MOST, all_desks, desks_beyond, desks_by_chance, desks_of_few_numbers, made
from limitdesk.dropping import dropped
from limitdesk.errors import NoText
from limitdesk.fracs import frac
from limitdesk.limits import lean
from limitdesk.texts import read, read_fraction, shown, shown_fraction

TOLD = "2 ; 1 -1 : 3 ; 0 4 : -5"
NUMBER = "(?:0|-?[1-9][0-9]*)"
LIMIT = f"{NUMBER}(?: {NUMBER})* : {NUMBER}"
NO_TEXTS = (
    None, True, False, 0, 1, -5, 1.5, b"1", b"2 ; 1 -1 : 3", bytearray(b"1"), ["1"], ("1",), ("1", "2"), [], (), {},
    {"1": "1"}, {"1"}, object(), Fraction(1, 2), (1, 2), (2, ()), iter("1"), str,
)
# Signs that Python takes for figures or blanks, or leaves out of numbers.
OTHER_SIGNS = (
    "\u0661", "\uff11", "\u00b2", "\u2460", "\u096b", "\U0001d7d8", "\u2212", "\u00a0", "\u2003", "\t", "\n", "\r", "_",
    "\x00", "+", ".", ",", "e", "x", "\ud800", "'", "a", "A", "=", "*", "\\", "\u2044", "\u00bd", "\u037e", "\uff1a",
)


def plain_read(line):
    """The desk that the line is to be read to, by other means; None if it is no desk's text."""
    if not re.fullmatch(f"{NUMBER}(?: ; {LIMIT})*", line, re.ASCII):
        return None
    rows = [[int(number) for number in re.findall(NUMBER, part)] for part in line.split(";")]
    kinds = rows[0][0]
    if not 1 <= kinds <= 4 or len(rows) > 11 or any(len(row) != kinds + 1 for row in rows[1:]):
        return None
    if any(abs(number) > MOST for row in rows for number in row):
        return None
    return (kinds, tuple((tuple(row[:-1]), row[-1]) for row in rows[1:]))


def plain_fraction(line):
    found = re.fullmatch(f"({NUMBER})(?:/([1-9][0-9]*))?", line, re.ASCII)
    if found is None:
        return None
    upper, lower = found.groups("1")
    if "/" in line and (int(lower) == 1 or gcd(int(upper), int(lower)) > 1):
        return None
    return (int(upper), int(lower)) if max(abs(int(upper)), int(lower)) < 10 ** 30 else None


def plain_shown(desk):
    rows = [" ".join(str(number) for number in weights) + f" : {bound}" for weights, bound in desk[1]]
    return "".join([str(desk[0])] + [f" ; {row}" for row in rows])


def with_one_sign_other(line, signs):
    """The line with one sign left out, put in or changed, at each place."""
    for place in range(len(line) + 1):
        for sign in signs:
            yield line[:place] + sign + line[place:]
            yield line[:place] + sign + line[place + 1:]
        yield line[:place] + line[place + 1:]
        yield line[:place] + line[place:place + 2][::-1] + line[place + 2:]


class TextCase(DeskCase):
    def assert_reads(self, function, wanted, line):
        """The line is read to what is wanted, or refused if that is None; whether it is read."""
        if wanted is None:
            self.assert_refused(NoText, function, line)
            return False
        told = function(line)
        self.assertEqual(told, wanted, line)
        if function is read:
            self.assert_desk(told, wanted[0])
        else:
            self.plain(told)
        return True


class Fractions(TextCase):
    def assert_written(self, fraction, line):
        self.assertEqual(shown_fraction(fraction), line)
        self.assertIs(type(shown_fraction(fraction)), str)
        self.assert_reads(read_fraction, fraction, line)

    def test_written_out(self):
        for fraction, line in (
            ((0, 1), "0"), ((1, 1), "1"), ((-1, 1), "-1"), ((1, 2), "1/2"), ((-1, 2), "-1/2"), ((10, 1), "10"),
            ((-100, 7), "-100/7"), ((7, 100), "7/100"), ((12345678901234567890, 1), "12345678901234567890"),
        ):
            self.assert_written(fraction, line)

    def test_what_was_written_is_read_to_the_same(self):
        for upper, lower in itertools.product(range(-30, 31), range(1, 31)):
            told = frac(upper, lower)
            self.assert_written(told, str(Fraction(upper, lower)))
        chance = random.Random(141)
        for most in (10 ** 6, 10 ** 12, 10 ** 30 - 1):
            for k in range(200):
                told = frac(chance.randint(-most, most), chance.randint(1, most))
                self.assert_written(told, str(Fraction(*told)))

    def test_thirty_figures(self):
        most = 10 ** 30 - 1
        for upper, lower in ((most, 1), (-most, 1), (10 ** 29, 1), (1, most), (-1, most), (most, most - 1),
                             (most - 1, most), (-most, most - 1)):
            self.assert_written((upper, lower), str(Fraction(upper, lower)))

    def test_thirty_one_figures(self):
        most = 10 ** 30
        for upper, lower in ((most, 1), (-most, 1), (1, most), (-1, most), (most, most + 1), (most + 1, 7),
                             (7, most + 1), (most - 1, most), (most, most - 1), (-10 ** 31, 3)):
            line = str(Fraction(upper, lower))
            self.assertEqual(shown_fraction((upper, lower)), line)
            self.assert_refused(NoText, read_fraction, line)
        for count in (31, 32, 5000, 10 ** 6):
            for line in ("1" * count, "-" + "1" * count, "0" * count, "1/" + "3" * count, "1" * count + "/2"):
                self.assert_refused(NoText, read_fraction, line)

    def test_numbers_of_any_length_are_written(self):
        # Python's own writing of numbers ends at some thousand figures.
        for count in (29, 30, 31, 63, 64, 65, 127, 128, 129, 4299, 4300, 4301, 9000):
            noughts = "0" * (count - 1)
            for upper, line in ((10 ** (count - 1), "1" + noughts), (10 ** count - 1, "9" * count)):
                self.assertEqual(shown_fraction((upper, 1)), line)
                self.assertEqual(shown_fraction((-upper, 1)), "-" + line)
                self.assertEqual(shown_fraction((-1, upper)), "-1/" + line)
            self.assertEqual(shown_fraction((7 * 10 ** (count - 1) + 1, 7)), "7" + noughts[1:] + "1/7")

    def test_written_otherwise(self):
        for line in (
            "", " ", "-", "/", "--1", "-0", "00", "01", "-01", "1/", "/2", "1/02", "01/2", "1/-2", "-1/-2", "--1/2",
            "+1", "1 ", " 1", "1\n", "\n1", "1/2 ", " 1/2", "1 /2", "1/ 2", "1//2", "1/2/3", "1/2/", "/1/2", "1.0",
            "1e3", "1_0", "0x1", "1:2", "one", "(1, 2)", "1,2", "1 2", "- 1", "1-", "-/2", "1/2\n", "1\x00",
            "\ufeff1", "1;2", "1\\2", "\u0661", "\uff11", "\u00b2", "1/\u0662", "\u0661/2", "\u22121", "\u00bd",
            "1\u20442", "None", "True",
        ):
            self.assert_refused(NoText, read_fraction, line)
            self.assertIsNone(plain_fraction(line))

    def test_lower_numbers(self):
        for line in ("1/0", "0/0", "-1/0", "5/0", "1/1", "0/1", "-1/1", "5/1", "2/1", "1/-1", "1/00", "1/01", "1/-0"):
            self.assert_refused(NoText, read_fraction, line)
        for upper, lower in itertools.product(range(-12, 13), range(-12, 13)):
            line = f"{upper}/{lower}"
            wanted = (upper, lower) if lower > 1 and gcd(upper, lower) == 1 else None
            self.assert_reads(read_fraction, wanted, line)
        great = 10 ** 28 + 1
        for line in (f"{2 * great}/{3 * great}", f"{great}/{great}", f"-{great}/{7 * great}", f"0/{great}"):
            self.assert_refused(NoText, read_fraction, line)

    def test_one_sign_other(self):
        counts = [0, 0]
        for line in ("0", "-7", "12", "1/2", "-35/12", "100/7", "9" * 30, "-1/" + "9" * 30):
            for other in with_one_sign_other(line, tuple("0123456789-/ ;:") + OTHER_SIGNS):
                counts[self.assert_reads(read_fraction, plain_fraction(other), other)] += 1
        self.assertGreater(min(counts), 500)

    def test_what_is_no_text(self):
        for line in NO_TEXTS:
            self.assert_refused(NoText, read_fraction, line)


class Desks(TextCase):
    def assert_written(self, desk, line):
        self.assertEqual(shown(desk), line)
        self.assertIs(type(shown(desk)), str)
        self.assert_reads(read, desk, line)

    def assert_no_desk(self, line):
        self.assert_refused(NoText, read, line)

    def test_written_out(self):
        self.assert_written(made(2, [[1, -1, 3], [0, 4, -5]]), TOLD)
        self.assert_written(made(1, [[7, 0]]), "1 ; 7 : 0")
        self.assert_written(made(1, [[-7, -10], [0, 0]]), "1 ; -7 : -10 ; 0 : 0")
        self.assert_written(made(4, [[1, 2, 3, 4, 5]]), "4 ; 1 2 3 4 : 5")
        for kinds in range(1, 5):
            self.assert_written(made(kinds, []), str(kinds))
        self.assert_written(made(1, [[1, 1]] * 10), "1" + " ; 1 : 1" * 10)
        self.assert_written(made(2, [[MOST, -MOST, MOST]]), f"2 ; {MOST} {-MOST} : {MOST}")

    def test_what_desk_of_made_is_read_to_the_same(self):
        desks = desks_of_few_numbers() + all_desks() + desks_by_chance(142, 5, MOST) + desks_by_chance(143, 5, 99)
        beyond = desks_beyond()
        for desk in desks:
            if desk not in beyond:
                self.assert_written(desk, plain_shown(desk))

    def test_desks_with_more_limits_and_greater_numbers(self):
        count = 0
        for desk in desks_beyond():
            self.assertEqual(shown(desk), plain_shown(desk))
            self.assert_no_desk(shown(desk))
        for desk in desks_by_chance(144, 1, MOST, (0, MOST)) + desks_by_chance(145, 1, 3, (0, 9)):
            told = dropped(desk, 0) if desk[0] > 1 else lean(desk)
            self.assertEqual(shown(told), plain_shown(told))
            count += self.assert_reads(read, plain_read(shown(told)), shown(told))
        self.assertGreater(count, 20)
        great = 10 ** 5000
        self.assertEqual(shown((2, (((great, -1), -great),))), f"2 ; 1{'0' * 5000} -1 : -1{'0' * 5000}")

    def test_what_desk_of_does_not_make(self):
        for line in (
            "0", "5", "-1", "10", "0 ; 1 : 1", "5 ; 1 1 1 1 1 : 1", "0 ; : 1", "-2 ; 1 1 : 1", "2 ; 1 : 1",
            "2 ; 1 1 1 : 1", "1 ; 1 1 : 1", "3 ; 1 1 : 1", "2 ; 1 1 : 1 ; 1 : 1", "2 ; 1 1 : 1 ; 1 1 1 : 1",
            "1" + " ; 1 : 1" * 11, "1" + " ; 1 : 1" * 12, "4" + " ; 1 1 1 1 : 1" * 11, "999999999999", "1" * 30,
        ):
            self.assert_no_desk(line)
            self.assertIsNone(plain_read(line))

    def test_numbers_of_thirteen_figures_and_more(self):
        for number in (MOST + 1, -MOST - 1, 10 ** 29, 10 ** 30 - 1, 10 ** 30, 10 ** 31, -10 ** 30):
            for line in (f"2 ; {number} 1 : 1", f"2 ; 1 {number} : 1", f"2 ; 1 1 : {number}", f"{number} ; 1 1 : 1",
                         f"2 ; 1 1 : 1 ; 1 1 : {number}"):
                self.assert_no_desk(line)
        for count in (13, 30, 31, 5000, 10 ** 6):
            self.assert_no_desk("1 ; 1 : " + "1" * count)
            self.assert_no_desk("1 ; " + "1" * count + " : 1")
            self.assert_no_desk("1" * count)
            self.assert_no_desk("1 ; 1 : " + "0" * count)
        for number in (MOST, -MOST):
            self.assert_written(made(2, [[number, 1, 1], [1, number, number]]),
                                f"2 ; {number} 1 : 1 ; 1 {number} : {number}")

    def test_written_otherwise(self):
        for line in (
            "", " ", ";", ":", " ; ", " : ", "2 ", " 2", "2\n", "\n2", "2 ;", "2 ; ", "2;", "; 2", " ; 2", "2 ; ;",
            "2 ; ; ", "2 ; 1 -1", "2 ; 1 -1 :", "2 ; 1 -1 : ", "2 ; : 3", "2 ;  : 3", "2 ; 1 -1 3", "2 ; 1 -1: 3",
            "2 ; 1 -1 :3", "2 ; 1 -1:3", "2; 1 -1 : 3", "2 ;1 -1 : 3", "2;1 -1 : 3", "2  ; 1 -1 : 3", "2 ;  1 -1 : 3",
            "2 ; 1  -1 : 3", "2 ; 1 -1  : 3", "2 ; 1 -1 :  3", "2 ; 1 -1 : 3 ", " 2 ; 1 -1 : 3", "2 ; 1 -1 : 3\n",
            "2 ; 1 -1 : 3 ;", "2 ; 1 -1 : 3 ; ", "2 ; ; 1 -1 : 3", "2 ; 1 -1 : 3 ; ; 0 4 : -5", "2 : 1 -1 ; 3",
            "2 ; 1 -1 : 3 : 4", "2 ; 1 : -1 : 3", "2 ; 1 ; -1 : 3", "2 , 1 -1 : 3", "2 ; 1, -1 : 3", "2 ; 1\t-1 : 3",
            "2 ; 1\n-1 : 3", "2 ;\n1 -1 : 3", "02 ; 1 -1 : 3", "2 ; 01 -1 : 3", "2 ; 1 -01 : 3", "2 ; 1 -1 : 03",
            "2 ; -0 -1 : 3", "2 ; 1 -0 : 3", "2 ; 1 -1 : -0", "2 ; 1 - 1 : 3", "2 ; 1 --1 : 3", "2 ; +1 -1 : 3",
            "2 ; 1 -1 : +3", "2 ; 1 -1 : 3/1", "2 ; 1/2 -1 : 3", "2 ; 1.0 -1 : 3", "2 ; 1_0 -1 : 3", "2 ; 1 -1 : 1e3",
            "2 ; a b : c", "2 ; 1 -1 : three", "two ; 1 -1 : 3", "2/1 ; 1 -1 : 3", "(2, ())", "2 ; 1 -1 <= 3",
            "2 ; 1 - : 3", "-2", "+2", "2.0", "2\x00", "\ufeff2", "None", "True", "2 ; 1 -1 : 3 4",
            "2 ; 1 -1 : ; 0 4 : -5",
        ):
            self.assert_no_desk(line)
            self.assertIsNone(plain_read(line))

    def test_one_sign_other(self):
        counts = [0, 0]
        for line in (TOLD, "3", "1 ; 10 : -20", "4 ; 0 -1 20 3 : 0 ; 5 6 7 8 : 9", f"1 ; {MOST} : {-MOST}"):
            for other in with_one_sign_other(line, tuple("0123456789-/ ;:") + OTHER_SIGNS):
                counts[self.assert_reads(read, plain_read(other), other)] += 1
        self.assertGreater(min(counts), 500)

    def test_signs_by_chance(self):
        chance = random.Random(146)
        parts = ("1", "2", "0", "-1", "-", " ", " ; ", " : ", ";", ":", "10", "1 1 : 1", " ; 1 1 : 2", " ; 3 : 4")
        counts = [0, 0]
        for k in range(20000):
            line = "".join(chance.choice(parts) for part in range(chance.randint(0, 5)))
            counts[self.assert_reads(read, plain_read(line), line)] += 1
        self.assertGreater(min(counts), 300)

    def test_what_is_no_text(self):
        for line in NO_TEXTS:
            self.assert_no_desk(line)
        self.assert_no_desk(made(2, [[1, -1, 3]]))

    def test_what_is_written_is_not_changed(self):
        desk = made(2, [[1, -1, 3], [0, 4, -5]])
        shown(desk)
        self.assertEqual(desk, (2, (((1, -1), 3), ((0, 4), -5))))


if __name__ == "__main__":
    unittest.main()
