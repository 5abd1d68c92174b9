"""Point 26, and 2 for it: bases that a table of ties carries on."""

import unittest

from bandorder.bases import carried
from bandorder.ties import lengths

from tests.helpers import apart, check_point_2, grid, grown_order, line, small_orders
from tests.reckoning import GREAT, noughts, product_by_the_words, rank_by_fractions
from tests.tying import TWISTED, drawn_ties, great_ties, lengths_by_the_words, ties_from, tuples_to_try


class Carried(unittest.TestCase):
    def assert_list(self, table, rows):
        self.assertIs(type(rows), list)
        for row in rows:
            self.assertIs(type(row), list)
            self.assertEqual(len(row), len(table))
            self.assertEqual({type(number) for number in row}, {int})
        for row, follower in zip(rows, rows[1:] + noughts(1, len(table))):
            self.assertEqual(product_by_the_words([row], table), [follower], table)

    def assert_right(self, table):
        told = carried(table)
        self.assertIs(type(told), list)
        for rows in told:
            self.assert_list(table, rows)
        self.assertEqual([len(rows) for rows in told], lengths(table), table)
        self.assertEqual([len(rows) for rows in told], lengths_by_the_words(table), table)
        all_rows = [row for rows in told for row in rows]
        self.assertEqual(len(all_rows), len(table))
        self.assertEqual(rank_by_fractions(all_rows), len(table), table)

    def test_of_no_things(self):
        self.assertEqual(carried([]), [])

    def test_of_noughts_alone(self):
        for many in range(1, 9):
            self.assert_right(noughts(many, many))
            self.assertEqual([len(rows) for rows in carried(noughts(many, many))], [1] * many)

    def test_of_one_chain(self):
        for many in range(1, 9):
            for numbers in [[1], [-1], [2, 3, -5], [GREAT], [GREAT, 1 - GREAT, 7]]:
                table = ties_from(line(many), numbers)
                self.assert_right(table)
                self.assertEqual(len(carried(table)), 1)

    def test_of_several_chains(self):
        self.assert_right([[0, 0, 3, 0], [0, 0, 0, 5], [0, 0, 0, 0], [0, 0, 0, 0]])
        self.assert_right([[0, 1, 0, 0], [0, 0, 0, 0], [0, 0, 0, -2], [0, 0, 0, 0]])
        self.assert_right([[0, 0, 1, 1], [0, 0, 1, 1], [0, 0, 0, 0], [0, 0, 0, 0]])
        self.assert_right([[0, 1, 1, 0], [0, 0, 0, 1], [0, 0, 0, -1], [0, 0, 0, 0]])
        for order in [TWISTED, grid(4, 2), grid(2, 4), line(3) + [[], [3], []], apart(8)]:
            self.assert_right(ties_from(order, [1]))
            self.assert_right(ties_from(order, [2, -3, 5, 7]))

    def test_of_small_orders(self):
        for seed, order in enumerate(small_orders()):
            self.assert_right(drawn_ties(order, seed, [0, 1, -1, 2]))
            self.assert_right(great_ties(order, seed))

    def test_of_drawn_tables(self):
        for order, table in tuples_to_try():
            self.assert_right(table)

    def test_of_orders_of_eight(self):
        for seed in range(40):
            order = grown_order(8, seed, 1 + seed % 4)
            self.assert_right(drawn_ties(order, seed, [0, 0, 1, 2, -1]))
            self.assert_right(great_ties(order, seed))

    def test_point_2(self):
        for order, table in tuples_to_try()[::30]:
            check_point_2(self, carried, table)
