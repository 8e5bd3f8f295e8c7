import collections
import unittest

from desk_case import (
    DeskCase, MOST, all_desks, desks_by_chance, desks_of_few_numbers, desks_through_a_point, hard_desks, least_clashes,
    made, spoil,
)
from limitdesk.judging import judged


class Judged(DeskCase):
    def assert_kind(self, wanted, desk):
        self.assertEqual(self.assert_judged(desk), wanted, desk)

    def test_without_limits(self):
        for kinds in range(1, 5):
            self.assert_kind("point", made(kinds, []))

    def test_one_kind(self):
        self.assert_kind("point", made(1, [[1, 5], [-1, -5]]))
        self.assert_kind("clash", made(1, [[1, 5], [-1, -6]]))
        self.assert_kind("point", made(1, [[3, 1], [-3, -1]]))
        self.assert_kind("clash", made(1, [[MOST, 1], [1 - MOST, -1]]))
        self.assert_kind("point", made(1, [[1 - MOST, -1], [MOST, 2]]))

    def test_weights_of_noughts(self):
        for kinds in range(1, 5):
            self.assert_kind("point", made(kinds, [[0] * kinds + [0], [0] * kinds + [7]]))
            self.assert_kind("clash", made(kinds, [[0] * kinds + [0], [1] * kinds + [5], [0] * kinds + [-1]]))
            self.assert_kind("clash", made(kinds, [[0] * kinds + [-MOST]] * 10))

    def test_clashes_of_one_limit_to_five(self):
        counts = set()
        for desk in least_clashes():
            self.assert_kind("clash", desk)
            # None of them can be done without, so the clash has a share of each.
            self.assertTrue(all(share[0] > 0 for share in judged(desk)[1]), desk)
            counts.add(len(desk[1]))
            for place in range(len(desk[1])):
                self.assert_kind("point", (desk[0], desk[1][:place] + desk[1][place + 1:]))
        self.assertEqual(counts, {1, 2, 3, 4, 5})

    def test_by_very_little(self):
        # The last limit is the sum of the others turned round, and one off.
        rows = [[MOST, 1, 0, 0, MOST], [0, MOST - 1, 1, 0, -MOST], [0, 0, MOST - 5, 1, 1], [-MOST, 1 - MOST, 3, 5, 0]]
        last = [-sum(row[k] for row in rows) for k in range(5)]
        self.assert_kind("point", made(4, rows + [last]))
        self.assert_kind("clash", made(4, rows + [last[:-1] + [last[-1] - 1]]))

    def test_desks_of_few_numbers(self):
        kinds = collections.Counter(self.assert_judged(desk) for desk in desks_of_few_numbers())
        self.assertGreater(min(kinds["point"], kinds["clash"]), 500)

    def test_desks_of_all_sorts(self):
        kinds = collections.Counter(self.assert_judged(desk) for desk in all_desks())
        self.assertGreater(min(kinds["point"], kinds["clash"]), 100)

    def test_where_all_limits_meet_there_is_a_point(self):
        for desk in desks_through_a_point(31, 4):
            self.assert_kind("point", desk)

    def test_an_answer_comes_for_hard_desks(self):
        for desk in hard_desks() + desks_by_chance(32, 3, 1, (0, 0)) + desks_by_chance(33, 3, 1, (-1, 0)):
            with self.seconds(5):
                self.assert_judged(desk)

    def test_a_list_that_was_told_is_the_caller_s_own(self):
        for desk in (made(2, [[1, 1, 1], [-1, 0, 5]]), made(2, [[1, 1, 1], [-1, -1, -2]]), made(2, [])):
            spoil(judged(desk))
            self.assert_judged(desk)


if __name__ == "__main__":
    unittest.main()
