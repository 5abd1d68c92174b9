"""Points 7 and 8, and 2 for them: chains, crowds, heights, levels, the longest chain."""

import itertools
import unittest

from bandorder.chains import heights, is_chain, is_crowd, levels, longest

from tests.helpers import apart, check_point_2, grid, line, orders_of_fourteen, small_orders

# 1 and 2 stand apart between 0 and 3; 4 stands apart from all.
FORK = [[], [0], [0], [0, 1, 2], []]


def some_orders():
    return small_orders() + orders_of_fourteen()


class IsChainIsCrowd(unittest.TestCase):
    def test_chains(self):
        for row in [[0], [3], [4], [0, 1], [0, 3], [2, 3], [0, 1, 3], [0, 2, 3]]:
            self.assertIs(is_chain(FORK, row), True, row)
        self.assertIs(is_chain(line(14), list(range(14))), True)

    def test_crowds(self):
        for row in [[0], [3], [4], [1, 2], [0, 4], [3, 4], [1, 2, 4]]:
            self.assertIs(is_crowd(FORK, row), True, row)
        self.assertIs(is_crowd(apart(14), list(range(14))), True)

    def test_no_chains(self):
        for row in [[1, 2], [0, 4], [0, 1, 2], [0, 1, 2, 3], [0, 1, 3, 4], [3, 4]]:
            self.assertIs(is_chain(FORK, row), False, row)

    def test_no_crowds(self):
        for row in [[0, 1], [0, 3], [2, 3], [1, 2, 3], [0, 1, 2, 4], [0, 3, 4]]:
            self.assertIs(is_crowd(FORK, row), False, row)

    def test_neither(self):
        rows = [
            [], [1, 0], [3, 0], [0, 3, 1], [2, 1], [4, 0], [0, 0], [1, 1], [0, 1, 1], [1, 1, 2],
            [-1], [-1, 0], [-1, 4], [5], [0, 5], [4, 5], [6], [10 ** 59], [-(10 ** 59)], [0, 10 ** 59], [-5, -4],
        ]
        for row in rows:
            self.assertIs(is_chain(FORK, row), False, row)
            self.assertIs(is_crowd(FORK, row), False, row)

    def test_of_no_things(self):
        for row in [[], [0], [-1], [1]]:
            self.assertIs(is_chain([], row), False, row)
            self.assertIs(is_crowd([], row), False, row)

    def test_by_the_words(self):
        for order in small_orders():
            for size in range(1, len(order) + 1):
                for row in itertools.combinations(range(len(order)), size):
                    ties = [low in order[high] for low, high in itertools.combinations(row, 2)]
                    self.assertIs(is_chain(order, list(row)), all(ties))
                    self.assertIs(is_crowd(order, list(row)), not any(ties))

    def test_point_2(self):
        for row in [[0, 1, 3], [1, 2, 4], [2, 1], [9], []]:
            check_point_2(self, is_chain, FORK, row)
            check_point_2(self, is_crowd, FORK, row)


def chains_on(order, top):
    """All chains with this thing on top, by trying all sets of things."""
    return [
        row + (top,)
        for size in range(top + 1)
        for row in itertools.combinations(range(top), size)
        if is_chain(order, list(row + (top,)))
    ]


class Heights(unittest.TestCase):
    def test_ordinary(self):
        self.assertEqual(heights([]), [])
        self.assertEqual(heights([[]]), [1])
        self.assertEqual(heights(FORK), [1, 2, 2, 3, 1])
        self.assertEqual(heights(line(14)), list(range(1, 15)))
        self.assertEqual(heights(apart(14)), [1] * 14)
        self.assertEqual(heights(grid(7, 2)), [1, 2, 3, 4, 5, 6, 7, 2, 3, 4, 5, 6, 7, 8])

    def test_not_how_many_stand_below(self):
        self.assertEqual(heights([[], [], [], [0, 1, 2]]), [1, 1, 1, 2])

    def test_by_the_words(self):
        for order in small_orders():
            wanted = [max(len(chain) for chain in chains_on(order, top)) for top in range(len(order))]
            self.assertEqual(heights(order), wanted)

    def test_point_2(self):
        for order in [[], FORK, line(4)]:
            check_point_2(self, heights, order)


class Levels(unittest.TestCase):
    def test_ordinary(self):
        self.assertEqual(levels([]), [])
        self.assertEqual(levels([[]]), [[0]])
        self.assertEqual(levels(FORK), [[0, 4], [1, 2], [3]])
        self.assertEqual(levels(line(14)), [[thing] for thing in range(14)])
        self.assertEqual(levels(apart(14)), [list(range(14))])

    def test_by_the_words(self):
        for order in some_orders():
            told = levels(order)
            tall = heights(order)
            self.assertEqual(len(told), max(tall, default=0))
            for at, level in enumerate(told):
                self.assertTrue(is_crowd(order, level))
                self.assertEqual({tall[thing] for thing in level}, {at + 1})
            self.assertEqual(sorted(sum(told, [])), list(range(len(order))))

    def test_point_2(self):
        for order in [[], FORK, line(4)]:
            check_point_2(self, levels, order)


class Longest(unittest.TestCase):
    def test_of_few_things(self):
        self.assertEqual(longest([]), [])
        self.assertEqual(longest([[]]), [0])
        self.assertEqual(longest([[], [0], []]), [0, 1])
        self.assertEqual(longest(line(14)), list(range(14)))

    def test_by_the_words(self):
        for order in some_orders():
            if order:
                told = longest(order)
                self.assertIs(type(told), list)
                self.assertTrue(is_chain(order, told))
                self.assertEqual(len(told), len(levels(order)))

    def test_none_is_longer(self):
        for order in small_orders():
            most = max([len(chain) for top in range(len(order)) for chain in chains_on(order, top)], default=0)
            self.assertEqual(len(longest(order)), most)

    def test_point_2(self):
        for order in [[], FORK, line(4), apart(3)]:
            check_point_2(self, longest, order)
