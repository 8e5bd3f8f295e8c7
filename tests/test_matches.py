import copy
import itertools
import random
import unittest
from fractions import Fraction

from desk_case import DeskCase, MOST, rows_by_chance, spoil
from limitdesk.errors import NoTable
from limitdesk.matches import match


class Matches(DeskCase):
    def assert_match(self, table):
        """What match tells, by its marks; the worth."""
        before = copy.deepcopy(table)
        told = match(table)
        self.assertEqual(table, before)
        self.assertIs(type(told), tuple)
        self.assertEqual(len(told), 3)
        worth = self.plain(told[0])
        rows = self.plain_list(told[1], len(table))
        columns = self.plain_list(told[2], len(table[0]))
        for shares in (rows, columns):
            self.assertTrue(all(share >= 0 for share in shares), (table, told))
            self.assertEqual(sum(shares), 1, (table, told))
        for column in range(len(columns)):
            self.assertGreaterEqual(sum(s * row[column] for s, row in zip(rows, table)), worth, (table, told))
        for row in table:
            self.assertLessEqual(sum(s * number for s, number in zip(columns, row)), worth, (table, told))
        return worth

    def test_written_out(self):
        self.assertEqual(match([[5]]), ((5, 1), [(1, 1)], [(1, 1)]))
        self.assertEqual(match([[-MOST]]), ((-MOST, 1), [(1, 1)], [(1, 1)]))
        self.assertEqual(match([[3, -1], [-2, 5]]), ((13, 11), [(7, 11), (4, 11)], [(6, 11), (5, 11)]))
        third = [(1, 3)] * 3
        self.assertEqual(match([[0, 1, -1], [-1, 0, 1], [1, -1, 0]]), ((0, 1), third, third))
        self.assertEqual(match([[1, 2], [3, 4]]), ((3, 1), [(0, 1), (1, 1)], [(1, 1), (0, 1)]))
        self.assertEqual(match([[1, 0, 0, 0], [0, 2, 0, 0], [0, 0, 3, 0], [0, 0, 0, 6]])[0], (1, 2))

    def test_one_row_or_one_column(self):
        chance = random.Random(131)
        for length in range(1, 5):
            for most in (1, 9, MOST):
                row = rows_by_chance(chance, 1, length, most)[0]
                self.assertEqual(self.assert_match([row]), min(row))
                self.assertEqual(self.assert_match([[number] for number in row]), max(row))

    def test_all_tables_of_few_numbers(self):
        for numbers in itertools.product((-1, 0, 1), repeat=4):
            self.assert_match([list(numbers[:2]), list(numbers[2:])])
        for numbers in itertools.product((0, 1), repeat=9):
            self.assert_match([list(numbers[:3]), list(numbers[3:6]), list(numbers[6:])])

    def test_each_number_of_rows_and_columns(self):
        chance = random.Random(132)
        for rows, columns in itertools.product(range(1, 5), repeat=2):
            for most in (1, 2, 9, MOST) * 5:
                self.assert_match(rows_by_chance(chance, rows, columns, most))

    def test_numbers_of_one_sign(self):
        chance = random.Random(133)
        for rows, columns in itertools.product(range(1, 5), repeat=2):
            for most in (3, MOST):
                table = [[chance.randint(1, most) for column in range(columns)] for row in range(rows)]
                self.assertGreater(self.assert_match(table), 0)
                self.assertLess(self.assert_match([[-number for number in row] for row in table]), 0)

    def test_all_numbers_the_same(self):
        for rows, columns in itertools.product(range(1, 5), repeat=2):
            for number in (0, 7, -7, MOST, -MOST):
                self.assertEqual(self.assert_match([[number] * columns for row in range(rows)]), number)

    def test_numbers_of_twelve_figures(self):
        for rows, columns in itertools.product(range(1, 5), repeat=2):
            table = [[MOST if (row + column) % 2 else -MOST for column in range(columns)] for row in range(rows)]
            if rows > 1 and columns > 1:
                self.assertEqual(self.assert_match(table), 0)
            else:
                self.assertEqual(self.assert_match(table), -MOST if rows == 1 else MOST)
            self.assert_match([[MOST - 5 * row * column - row for column in range(columns)] for row in range(rows)])

    def test_rows_and_columns_there_twice(self):
        chance = random.Random(134)
        for most in (2, MOST) * 5:
            table = rows_by_chance(chance, 2, 2, most)
            worth = self.assert_match(table)
            self.assertEqual(self.assert_match(table * 2), worth)
            self.assertEqual(self.assert_match([row * 2 for row in table]), worth)
            self.assertEqual(self.assert_match([row * 2 for row in table] * 2), worth)

    def test_one_list_that_is_all_rows(self):
        row = [3, -1, 4]
        self.assertEqual(self.assert_match([row] * 4), -1)

    def test_rows_and_columns_in_each_other_s_place(self):
        chance = random.Random(135)
        for rows, columns in itertools.product(range(1, 5), repeat=2):
            table = rows_by_chance(chance, rows, columns, 9)
            turned = [[-row[column] for row in table] for column in range(columns)]
            self.assertEqual(self.assert_match(turned), -self.assert_match(table))

    def test_numbers_that_are_all_so_much_greater(self):
        chance = random.Random(136)
        for most in (3, 10 ** 11):
            table = rows_by_chance(chance, 4, 4, most)
            worth = self.assert_match(table)
            for more in (1, -5, 10 ** 11):
                self.assertEqual(self.assert_match([[number + more for number in row] for row in table]), worth + more)
            self.assertEqual(self.assert_match([[9 * number for number in row] for row in table]), 9 * worth)

    def test_two_rows_and_columns_reckoned_by_themselves(self):
        for a, b, c, d in itertools.product((-5, -1, 0, 2, 7), repeat=4):
            least = max(min(a, b), min(c, d))
            greatest = min(max(a, c), max(b, d))
            wanted = least if least == greatest else Fraction(a * d - b * c, a + d - b - c)
            self.assertEqual(self.assert_match([[a, b], [c, d]]), wanted)

    def test_lists_that_were_told_are_the_caller_s_own(self):
        for table in ([[1]], [[3, -1], [-2, 5]], [[0, 0], [0, 0], [0, 0]]):
            worth = self.assert_match(table)
            spoil(match(table))
            self.assertEqual(self.assert_match(table), worth)


class Refused(DeskCase):
    def assert_no_table(self, table):
        self.assert_refused(NoTable, match, table)

    def test_no_list_of_rows(self):
        for table in (
            None, True, False, 0, 5, -1, 1.5, "", "ab", "1 2", b"ab", (), [], {}, {0: [1]}, set(), object(), range(2),
            iter([[1]]), ([1], [2]), (1, 2), [1], [1, 2], [(1, 2), (3, 4)], [(1,)], ["1"], [None], [True], [{}],
            [{0: 1}], [range(2)], [[1, 2], (3, 4)], [[1, 2], None], [None, [1, 2]], [[1], 2], [[[1]]], [[[1], [2]]],
            lambda: [[1]],
        ):
            self.assert_no_table(table)

    def test_how_many_rows_and_columns(self):
        for rows, columns in itertools.product(range(8), repeat=2):
            table = [[1] * columns for row in range(rows)]
            if 1 <= rows <= 4 and 1 <= columns <= 4:
                self.assertEqual(match(table)[0], (1, 1))
            else:
                self.assert_no_table(table)

    def test_rows_of_unlike_lengths(self):
        for lengths in itertools.product(range(6), repeat=3):
            table = [[1] * length for length in lengths]
            if len(set(lengths)) > 1:
                self.assert_no_table(table)

    def test_numbers(self):
        for number in (
            MOST + 1, -MOST - 1, 10 ** 30, -10 ** 5000, True, False, None, "1", "", 1.0, 0.0, float("nan"), (1, 1), (),
            [1], [], {}, object(), Fraction(1), 1j, b"1",
        ):
            self.assert_no_table([[number]])
            for row, column in itertools.product(range(4), repeat=2):
                table = [[1] * 4 for k in range(4)]
                table[row][column] = number
                self.assert_no_table(table)

    def test_a_table_in_itself(self):
        table = [[1]]
        table[0][0] = table
        self.assert_no_table(table)
        table = []
        table.append(table)
        self.assert_no_table(table)

    def test_what_was_refused_is_as_before(self):
        table = [[1, True], [MOST + 1, "x"]]
        self.assert_no_table(table)
        self.assertEqual(repr(table), "[[1, True], [1000000000000, 'x']]")


if __name__ == "__main__":
    unittest.main()
