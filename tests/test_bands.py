"""Points 9, 10 and 11, and 2 for them: bands and steps."""

import unittest

from bandorder.bands import bands, steps

from tests.counting import counted_bands, counted_steps
from tests.helpers import all_orders, apart, check_point_2, grid, grown_order, line, orders_of_fourteen, small_orders


def orders_to_count():
    told = small_orders() + all_orders(5)
    told += [grown_order(6, seed, 1 + seed % 3) for seed in range(60)]
    told += [grown_order(7, seed, 1 + seed % 3) for seed in range(30)]
    return told


class BandsAndSteps(unittest.TestCase):
    def test_ordinary(self):
        self.assertEqual((bands([]), steps([])), ([], []))
        self.assertEqual((bands([[]]), steps([[]])), ([1], [1]))
        self.assertEqual((bands([[], [0], []]), steps([[], [0], []])), ([2, 1], [2, 1]))
        self.assertEqual((bands([[], [0], [0], [0, 1, 2]]), steps([[], [0], [0], [0, 1, 2]])), ([3, 1], [2, 1, 1]))
        self.assertEqual((bands(grid(3, 3)), steps(grid(3, 3))), ([5, 3, 1], [3, 2, 2, 1, 1]))

    def test_two_chains_without_the_longest_one(self):
        # The only chain of four is 0 2 4 5, and of 1 and 3, which it leaves, none stands below the other;
        # yet 0 2 3 and 1 4 5 hold all.
        order = [[], [], [0], [0, 2], [0, 1, 2], [0, 1, 2, 4]]
        self.assertEqual(bands(order), [4, 2])
        self.assertEqual(steps(order), [2, 2, 1, 1])

    def test_against_counting(self):
        for order in orders_to_count():
            self.assertEqual(bands(order), counted_bands(order), order)
            self.assertEqual(steps(order), counted_steps(order), order)

    def test_of_fourteen_things(self):
        self.assertEqual((bands(line(14)), steps(line(14))), ([14], [1] * 14))
        self.assertEqual((bands(apart(14)), steps(apart(14))), ([1] * 14, [14]))
        self.assertEqual((bands(grid(7, 2)), steps(grid(7, 2))), ([8, 6], [2] * 6 + [1] * 2))
        self.assertEqual((bands(grid(4, 3) + [[], []]), steps(grid(4, 3) + [[], []])),
                         ([6, 4, 2, 1, 1], [5, 3, 2, 2, 1, 1]))

    def test_two_sides_of_seven(self):
        sides = apart(7) + [list(range(7)) for thing in range(7)]
        self.assertEqual((bands(sides), steps(sides)), ([2] * 7, [7, 7]))
        sides = apart(7) + [[thing] for thing in range(6)] + [[0, 1, 2, 3, 4, 5]]
        self.assertEqual((bands(sides), steps(sides)), ([2] * 6 + [1] * 2, [8, 6]))

    def test_they_never_rise_and_see_one_another_by_columns(self):
        for order in orders_to_count() + orders_of_fourteen():
            rows, columns = bands(order), steps(order)
            for told in (rows, columns):
                self.assertEqual(told, sorted(told, reverse=True))
                self.assertEqual(sum(told), len(order))
                self.assertTrue(all(number > 0 for number in told))
            self.assertEqual(columns, [sum(band >= at + 1 for band in rows) for at in range(len(columns))])

    def test_point_2(self):
        for order in [[], [[]], [[], [0], [0], [0, 1, 2]], apart(3), line(4), grid(7, 2)]:
            check_point_2(self, bands, order)
            check_point_2(self, steps, order)
