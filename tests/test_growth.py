"""Point 18, and 2 and 3 for it: growth and stairs."""

import unittest

from bandorder.bands import bands
from bandorder.growth import growth, stairs
from bandorder.shapes import box_at

from tests.counting import counted_bands
from tests.helpers import all_orders, apart, check_point_2, grid, grown_order, line, orders_of_fourteen, small_orders

TWISTED = [[], [], [0], [0, 2], [0, 1, 2], [0, 1, 2, 4]]


def some_orders():
    told = small_orders() + all_orders(5) + [TWISTED]
    return told + [grown_order(many, seed, 1 + seed % 4) for many in range(6, 14) for seed in range(5)]


class Growth(unittest.TestCase):
    def test_ordinary(self):
        self.assertEqual(growth([]), [[]])
        self.assertEqual(growth([[]]), [[], [1]])
        self.assertEqual(growth([[], [0], []]), [[], [1], [2], [2, 1]])
        self.assertEqual(growth([[], [0], [0], [0, 1, 2]]), [[], [1], [2], [2, 1], [3, 1]])
        self.assertEqual(growth(TWISTED), [[], [1], [1, 1], [2, 1], [3, 1], [3, 2], [4, 2]])

    def test_against_counting(self):
        for order in small_orders() + all_orders(5)[::5] + [grown_order(7, seed, 3) for seed in range(8)]:
            self.assertEqual(growth(order), [counted_bands(order[:many]) for many in range(len(order) + 1)])

    def test_each_is_the_bands_of_the_first_things(self):
        for order in some_orders() + orders_of_fourteen():
            self.assertEqual(growth(order), [bands(order[:many]) for many in range(len(order) + 1)])

    def test_one_box_more_each_time(self):
        for order in some_orders() + orders_of_fourteen():
            shapes = growth(order)
            for ahead, shape in zip(shapes, shapes[1:]):
                unlike = [at for at in range(len(shape)) if shape[at] != (ahead + [0])[at]]
                self.assertIn(len(shape) - len(ahead), (0, 1))
                self.assertEqual((len(unlike), sum(shape)), (1, sum(ahead) + 1))
                self.assertEqual(box_at(ahead, shape), unlike[0])

    def test_point_2(self):
        for order in [[], [[]], TWISTED, apart(3), line(4), grid(7, 2)]:
            check_point_2(self, growth, order)


class Stairs(unittest.TestCase):
    def test_ordinary(self):
        self.assertEqual(stairs([]), [])
        self.assertEqual(stairs([[]]), [[0]])
        self.assertEqual(stairs([[], [0], []]), [[0, 1], [2]])
        self.assertEqual(stairs([[], [0], [0], [0, 1, 2]]), [[0, 1, 3], [2]])
        self.assertEqual(stairs(TWISTED), [[0, 2, 3, 5], [1, 4]])
        self.assertEqual(stairs(line(14)), [list(range(14))])
        self.assertEqual(stairs(apart(14)), [[thing] for thing in range(14)])

    def test_each_thing_where_the_band_grew_by_it(self):
        for order in some_orders() + orders_of_fourteen():
            rows = stairs(order)
            shapes = growth(order)
            self.assertEqual(sorted(sum(rows, [])), list(range(len(order))))
            for at, row in enumerate(rows):
                for thing in row:
                    self.assertEqual(shapes[thing + 1][at], (shapes[thing] + [0])[at] + 1, (order, rows))

    def test_rows_are_as_long_as_the_bands(self):
        for order in some_orders() + orders_of_fourteen():
            self.assertEqual([len(row) for row in stairs(order)], bands(order))

    def test_rows_and_columns_rise(self):
        for order in some_orders() + orders_of_fourteen():
            rows = stairs(order)
            for row in rows:
                self.assertEqual(row, sorted(set(row)))
            for ahead, row in zip(rows, rows[1:]):
                self.assertTrue(all(less < more for less, more in zip(ahead, row)), (order, rows))

    def test_point_2(self):
        for order in [[], [[]], TWISTED, apart(3), line(4), grid(7, 2)]:
            check_point_2(self, stairs, order)
