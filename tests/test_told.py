"""Points 27 and 3, and 2 for them: a table of ties whose lengths are the bands."""

import unittest

from bandorder.bands import bands
from bandorder.bases import carried
from bandorder.ties import is_ties, lengths
from bandorder.told import told_ties

from tests.counting import counted_bands
from tests.helpers import all_orders, apart, check_point_2, grid, grown_order, line, small_orders
from tests.tying import TWISTED, lengths_by_the_words, orders_up_to_eight


def orders_of_eight():
    told = [line(8), apart(8), grid(4, 2), grid(2, 4), TWISTED + [[0, 1], [0, 1, 2, 3, 6]]]
    return told + [grown_order(8, seed, 1 + seed % 5) for seed in range(60)]


class ToldTies(unittest.TestCase):
    def assert_table(self, order, table):
        self.assertIs(type(table), list)
        self.assertEqual(len(table), len(order))
        for low, row in enumerate(table):
            self.assertIs(type(row), list)
            self.assertEqual(len(row), len(order))
            for high, number in enumerate(row):
                self.assertIs(type(number), int)
                self.assertTrue(number == 0 or low in order[high], (order, table))
        self.assertIs(is_ties(order, table), True)

    def assert_right(self, order):
        table = told_ties(order)
        self.assert_table(order, table)
        self.assertEqual(lengths(table), bands(order), (order, table))
        self.assertEqual(lengths_by_the_words(table), bands(order), (order, table))

    def test_of_no_things(self):
        self.assertEqual(told_ties([]), [])

    def test_where_there_is_just_one(self):
        self.assertEqual(told_ties([[]]), [[0]])
        self.assertEqual(told_ties(apart(8)), [[0] * 8] * 8)

    def test_of_every_order_of_up_to_four_things(self):
        for order in small_orders():
            self.assert_right(order)
            self.assertEqual(lengths_by_the_words(told_ties(order)), counted_bands(order), order)

    def test_of_many_orders_of_five_and_more(self):
        for order in all_orders(5)[::2] + all_orders(6)[::25] + orders_up_to_eight():
            self.assert_right(order)

    def test_of_orders_of_eight(self):
        for order in orders_of_eight():
            self.assert_right(order)

    def test_where_no_chains_apart_would_do(self):
        self.assertEqual(bands(TWISTED), [4, 2])
        self.assertEqual(lengths_by_the_words(told_ties(TWISTED)), [4, 2])

    def test_with_a_base_that_it_carries_on(self):
        for order in small_orders() + orders_of_eight():
            self.assertEqual([len(rows) for rows in carried(told_ties(order))], bands(order), order)

    def test_point_2(self):
        for order in [[], [[]], TWISTED, apart(3), line(8), grid(4, 2)]:
            check_point_2(self, told_ties, order)
