"""Point 24, and 2 for it: rows that bring a table to nought."""

import unittest

from bandorder.kernels import to_nought
from bandorder.tables import power

from tests.helpers import check_point_2
from tests.reckoning import (
    GREAT, noughts, product_by_the_words, rank_by_fractions, small_tables, great_tables, table_by_chance,
    table_of_rank, unit_by_the_words,
)


class ToNought(unittest.TestCase):
    def assert_right(self, table, rank):
        rows = to_nought(table)
        self.assertIs(type(rows), list)
        self.assertEqual(len(rows), len(table) - rank, table)
        for row in rows:
            self.assertIs(type(row), list)
            self.assertEqual(len(row), len(table))
            self.assertEqual({type(number) for number in row}, {int})
            self.assertEqual(product_by_the_words([row], table), noughts(1, len(table[0])), table)
        self.assertEqual(rank_by_fractions(rows), len(rows), table)

    def test_of_the_empty_table(self):
        self.assertEqual(to_nought([]), [])

    def test_where_there_are_none(self):
        for table in [[[1]], [[-GREAT]], [[0, 0, 2]], unit_by_the_words(10), [[1, 2], [2, 5]]]:
            self.assertEqual(to_nought(table), [])

    def test_ordinary(self):
        self.assert_right([[0]], 0)
        self.assert_right(noughts(10, 10), 0)
        self.assert_right([[1, 2], [2, 4]], 1)
        self.assert_right([[2, 4], [3, 6], [5, 10]], 1)
        self.assert_right([[0, 0, 3], [0, 0, 5], [0, 2, 1], [0, 4, 2]], 2)
        self.assert_right([[0, 1, 0], [0, 0, 1], [0, 0, 0]], 2)
        self.assert_right([[GREAT], [GREAT - 1], [0], [-GREAT]], 1)

    def test_of_small_tables(self):
        for table in small_tables():
            self.assert_right(table, rank_by_fractions(table))

    def test_of_great_tables(self):
        for table in great_tables():
            self.assert_right(table, rank_by_fractions(table))

    def test_rows_made_of_others(self):
        for rank in range(1, 11):
            table = table_of_rank(10, 10, rank, rank, GREAT)
            self.assert_right(table, rank_by_fractions(table))

    def test_of_what_was_told(self):
        table = table_of_rank(10, 10, 6, 3, GREAT)
        self.assert_right(power(table, 20), rank_by_fractions(table))
        table = table_by_chance(10, 3, 9, GREAT)
        self.assert_right(to_nought(table), 7)

    def test_point_2(self):
        for table in [[], [[0]], noughts(3, 2), [[1, 2], [2, 4]], [[0, 1, 0], [0, 0, 1], [0, 0, 0]]]:
            check_point_2(self, to_nought, table)
