"""Point 6, and 2 for it: those above, covers, turned over, parts."""

import itertools
import unittest

from bandorder.errors import NoThing
from bandorder.orders import is_order
from bandorder.parts import aboves, covers, part_of, turned

from tests.helpers import (
    apart, check_point_2, check_refusal, grid, line, orders_of_fourteen, small_orders,
)

FORK = [[], [0], [0], [0, 1, 2]]


def some_orders():
    return small_orders() + orders_of_fourteen()


class Aboves(unittest.TestCase):
    def test_ordinary(self):
        self.assertEqual(aboves([]), [])
        self.assertEqual(aboves([[]]), [[]])
        self.assertEqual(aboves([[], [0], [0, 1], []]), [[1, 2], [2], [], []])
        self.assertEqual(aboves(FORK), [[1, 2, 3], [3], [3], []])

    def test_by_the_words(self):
        for order in some_orders():
            told = aboves(order)
            self.assertEqual(len(told), len(order))
            for low, row in enumerate(told):
                self.assertEqual(row, [high for high in range(len(order)) if low in order[high]])

    def test_point_2(self):
        for order in [[], FORK, apart(3), line(4)]:
            check_point_2(self, aboves, order)


class Covers(unittest.TestCase):
    def test_ordinary(self):
        self.assertEqual(covers([]), [])
        self.assertEqual(covers([[]]), [])
        self.assertEqual(covers(apart(5)), [])
        self.assertEqual(covers(line(4)), [(0, 1), (1, 2), (2, 3)])
        self.assertEqual(covers(FORK), [(0, 1), (0, 2), (1, 3), (2, 3)])

    def test_sorted_by_low_then_high(self):
        self.assertEqual(covers([[], [], [1], [0], [0, 1]]), [(0, 3), (0, 4), (1, 2), (1, 4)])

    def test_they_are_tuples_in_a_list(self):
        told = covers(FORK)
        self.assertIs(type(told), list)
        self.assertEqual({type(cover) for cover in told}, {tuple})

    def test_by_the_words(self):
        for order in some_orders():
            things = range(len(order))
            wanted = [
                (low, high)
                for low, high in itertools.product(things, things)
                if low in order[high] and not any(low in order[mid] and mid in order[high] for mid in things)
            ]
            self.assertEqual(covers(order), wanted)

    def test_point_2(self):
        for order in [[], FORK, apart(3), line(4)]:
            check_point_2(self, covers, order)


class Turned(unittest.TestCase):
    def test_ordinary(self):
        self.assertEqual(turned([]), [])
        self.assertEqual(turned([[]]), [[]])
        self.assertEqual(turned(line(5)), line(5))
        self.assertEqual(turned([[], [0], []]), [[], [], [1]])
        self.assertEqual(turned([[], [], [0, 1]]), [[], [0], [0]])
        self.assertEqual(turned(grid(2, 2)), grid(2, 2))

    def test_by_the_words(self):
        for order in some_orders():
            told = turned(order)
            self.assertIs(is_order(told), True)
            last = len(order) - 1
            for low, high in itertools.product(range(len(order)), repeat=2):
                self.assertEqual(low in order[high], last - high in told[last - low])

    def test_twice(self):
        for order in some_orders():
            self.assertEqual(turned(turned(order)), order)

    def test_point_2(self):
        for order in [[], FORK, apart(3), [[], [0], [0, 1], [0]]]:
            check_point_2(self, turned, order)


class PartOf(unittest.TestCase):
    def test_none(self):
        for order in [[], [[]], FORK, line(14)]:
            self.assertEqual(part_of(order, []), [])

    def test_some(self):
        self.assertEqual(part_of(FORK, [1]), [[]])
        self.assertEqual(part_of(FORK, [1, 2]), [[], []])
        self.assertEqual(part_of(FORK, [0, 3]), [[], [0]])
        self.assertEqual(part_of([[], [0], [], [0, 1], [2]], [1, 2, 3, 4]), [[], [], [0], [1]])

    def test_in_whatever_order_and_several_times(self):
        self.assertEqual(part_of(FORK, [3, 0]), [[], [0]])
        self.assertEqual(part_of(FORK, [3, 1, 3, 1, 1, 3]), [[], [0]])
        self.assertEqual(part_of(FORK, [2, 1, 2]), [[], []])

    def test_all(self):
        for order in some_orders():
            self.assertEqual(part_of(order, list(range(len(order)))), order)
            self.assertEqual(part_of(order, list(range(len(order)))[::-1] * 2), order)

    def test_by_the_words(self):
        for order in small_orders():
            for size in range(len(order) + 1):
                for kept in itertools.combinations(range(len(order)), size):
                    told = part_of(order, list(kept))
                    self.assertIs(is_order(told), True)
                    self.assertEqual(len(told), size)
                    for low, high in itertools.product(range(size), repeat=2):
                        self.assertEqual(low in told[high], kept[low] in order[kept[high]])

    def test_no_thing(self):
        for wrong in [-1, 4, 5, 10 ** 59, -(10 ** 59), True, False, "0", "", None, [0], (0,)]:
            for some in [[wrong], [0, wrong], [wrong, 3, 3]]:
                check_refusal(self, NoThing, part_of, FORK, some)
        check_refusal(self, NoThing, part_of, [], [0])
        check_refusal(self, NoThing, part_of, line(14), [14])

    def test_point_2(self):
        check_point_2(self, part_of, [], [])
        check_point_2(self, part_of, FORK, [0, 1, 2, 3])
        check_point_2(self, part_of, FORK, [3, 1, 3])
