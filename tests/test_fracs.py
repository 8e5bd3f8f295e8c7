import unittest
from fractions import Fraction

from desk_case import FractionCase
from limitdesk.fracs import below, frac, less, over, plus, times, turned

LARGE = 123456789012345678901234567890
WHOLES = (
    0, 1, -1, 2, -2, 3, -3, 4, 6, -6, 12, -35, 10 ** 12 - 1, -(10 ** 12),
    10 ** 20, -(10 ** 20), 10 ** 20 + 39, LARGE, -LARGE, LARGE * 7, 6 ** 40, -(2 ** 70), 10 ** 60 + 1,
)
PAIRS = [(upper, lower) for upper in WHOLES for lower in WHOLES if lower != 0]
FRACTIONS = sorted({(f.numerator, f.denominator) for f in [Fraction(u, l) for u, l in PAIRS[::5]]})


def plain(fraction):
    return Fraction(fraction[0], fraction[1])


class ToldCase(FractionCase):
    def assert_fraction(self, told, wanted):
        self.plain(told)
        self.assertEqual(told, (wanted.numerator, wanted.denominator))


class Made(ToldCase):
    def test_written_out(self):
        for upper, lower, wanted in (
            (6, 4, (3, 2)), (-6, 4, (-3, 2)), (6, -4, (-3, 2)), (-6, -4, (3, 2)), (1, 1, (1, 1)), (1, -1, (-1, 1)),
            (0, 1, (0, 1)), (0, 7, (0, 1)), (0, -7, (0, 1)), (5, 5, (1, 1)), (8, 2, (4, 1)), (2, 8, (1, 4)),
            (10 ** 25, 10 ** 24, (10, 1)), (10 ** 24, -(10 ** 25), (-1, 10)), (0, -(10 ** 25), (0, 1)),
            (3 * 10 ** 30 + 3, 6 * 10 ** 30 + 6, (1, 2)),
        ):
            with self.subTest(upper=upper, lower=lower):
                self.assertEqual(frac(upper, lower), wanted)
                self.assert_fraction(frac(upper, lower), Fraction(upper, lower))

    def test_every_pair(self):
        for upper, lower in PAIRS:
            self.assert_fraction(frac(upper, lower), Fraction(upper, lower))

    def test_small_ones(self):
        for upper in range(-13, 14):
            for lower in list(range(-13, 0)) + list(range(1, 14)):
                self.assert_fraction(frac(upper, lower), Fraction(upper, lower))

    def test_of_thousands_of_figures(self):
        upper = 3 ** 9000 * 7
        lower = -(3 ** 8999) * 5
        self.assertEqual(frac(upper, lower), (-21, 5))
        self.assertEqual(frac(upper, 2 ** 9000), (upper, 2 ** 9000))

    def test_a_lower_number_of_nought_makes_none(self):
        for upper in (0, 5, -5):
            self.assertRaises(ZeroDivisionError, frac, upper, 0)
            self.assertRaises(ZeroDivisionError, over, (upper, 1), (0, 1))


class Reckoned(ToldCase):
    def test_written_out(self):
        self.assertEqual(plus((1, 6), (1, 3)), (1, 2))
        self.assertEqual(plus((1, 2), (-1, 2)), (0, 1))
        self.assertEqual(less((1, 6), (1, 3)), (-1, 6))
        self.assertEqual(less((5, 3), (5, 3)), (0, 1))
        self.assertEqual(times((2, 3), (-3, 4)), (-1, 2))
        self.assertEqual(times((0, 1), (-3, 4)), (0, 1))
        self.assertEqual(over((2, 3), (-4, 3)), (-1, 2))
        self.assertEqual(over((0, 1), (-4, 3)), (0, 1))
        self.assertEqual(turned((2, 3)), (-2, 3))
        self.assertEqual(turned((-2, 3)), (2, 3))
        self.assertEqual(turned((0, 1)), (0, 1))

    def test_the_fractions_tried_have_all_kinds(self):
        self.assertIn((0, 1), FRACTIONS)
        self.assertTrue(any(u > 10 ** 20 for u, l in FRACTIONS))
        self.assertTrue(any(u < -(10 ** 20) for u, l in FRACTIONS))
        self.assertTrue(any(l > 10 ** 20 for u, l in FRACTIONS))

    def test_every_two(self):
        for a in FRACTIONS:
            for b in FRACTIONS:
                self.assert_fraction(plus(a, b), plain(a) + plain(b))
                self.assert_fraction(less(a, b), plain(a) - plain(b))
                self.assert_fraction(times(a, b), plain(a) * plain(b))
                if b[0] != 0:
                    self.assert_fraction(over(a, b), plain(a) / plain(b))

    def test_turned(self):
        for a in FRACTIONS:
            self.assert_fraction(turned(a), -plain(a))


class Below(unittest.TestCase):
    def test_less_alike_and_greater(self):
        for a, b in (
            ((1, 3), (1, 2)), ((-1, 2), (-1, 3)), ((-1, 2), (0, 1)), ((0, 1), (1, 10 ** 30)), ((-7, 2), (1, 9)),
            ((2, 1), (10 ** 20, 10 ** 19 + 1)), ((10 ** 25, 10 ** 25 + 1), (1, 1)),
        ):
            with self.subTest(a=a, b=b):
                self.assertIs(below(a, b), True)
                self.assertIs(below(b, a), False)
                self.assertIs(below(a, a), False)
                self.assertIs(below(b, b), False)

    def test_every_two(self):
        for a in FRACTIONS:
            for b in FRACTIONS:
                self.assertIs(below(a, b), plain(a) < plain(b))


if __name__ == "__main__":
    unittest.main()
