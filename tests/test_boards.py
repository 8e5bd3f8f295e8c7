import random
import unittest
from fractions import Fraction

from desk_case import desks_by_chance, plain_weight
from limitdesk.boards import first_board, freed, settled, swapped


class Swaps(unittest.TestCase):
    def assert_tells(self, board, desk, goal):
        """By each row the board tells its thing rightly, whatever the amounts are."""
        chance = random.Random(len(board.rows))
        self.assertGreater(board.divisor, 0)
        for turn in range(3):
            amounts = [Fraction(chance.randint(-99, 99), chance.randint(1, 9)) for kind in range(desk[0])]
            rooms = [bound - plain_weight(weights, amounts) for weights, bound in desk[1]]
            things = amounts + rooms + [plain_weight(goal, amounts)]
            self.assertEqual(len(board.rows), len(things))
            heads = [things[head] for head in board.heads] + [1]
            for row, thing in zip(board.rows, things):
                self.assertEqual(plain_weight(row, heads), board.divisor * thing)

    def test_each_board_tells_the_same_things(self):
        chance = random.Random(21)
        for desk in desks_by_chance(22, 1, 5) + desks_by_chance(23, 1, 10 ** 12 - 1):
            goal = [chance.randint(-9, 9) for kind in range(desk[0])]
            board = first_board(desk, goal)
            self.assert_tells(board, desk, goal)
            for turn in range(6):
                column = chance.randrange(desk[0])
                things = [k for k in range(len(board.rows) - 1) if board.rows[k][column] != 0]
                board = swapped(board, chance.choice(things), column)
                self.assert_tells(board, desk, goal)

    def test_a_swap_leaves_the_board_before_it_as_it_was(self):
        desk = desks_by_chance(24, 1, 5)[-1]
        board = first_board(desk, [1, 2, 3, 4])
        before = ([list(row) for row in board.rows], list(board.heads), board.divisor)
        swapped(board, 5, 0)
        self.assertEqual((board.rows, board.heads, board.divisor), before)

    def test_an_amount_stays_a_head_only_if_no_room_hangs_on_it(self):
        for desk in desks_by_chance(25, 2, 1):
            for board in (freed(first_board(desk, [1] * desk[0])), settled(desk, [1] * desk[0])[0]):
                for column, head in enumerate(board.heads):
                    if head < desk[0]:
                        self.assertEqual([row[column] for row in board.rows[desk[0]:-1]], [0] * len(desk[1]))


if __name__ == "__main__":
    unittest.main()
