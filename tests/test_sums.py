"""Point 29, and 2 for it: orders laid beside one another, and on top."""

import itertools
import unittest

from bandorder.bands import bands, steps
from bandorder.errors import Full
from bandorder.orders import is_order
from bandorder.parts import turned
from bandorder.shapes import added, merged
from bandorder.sums import beside, laid_on

from tests.helpers import (
    all_orders, apart, check_point_2, check_refusal, grid, grown_order, line, orders_of_fourteen, small_orders,
)

TWISTED = [[], [], [0], [0, 2], [0, 1, 2], [0, 1, 2, 4]]


def tuples_that_fit():
    """Tuples of two orders of at most fourteen things in all."""
    small = [order for many in range(4) for order in all_orders(many)]
    told = list(itertools.product(small, repeat=2))
    for many in range(15):
        one, other = grown_order(many, many, 1 + many % 3), grown_order(14 - many, 50 + many, 1 + many % 4)
        told += [(one, other), (line(many), apart(14 - many)), (apart(many), line(14 - many))]
    told += [(TWISTED, TWISTED), (TWISTED, grid(4, 2)), (grid(2, 4), TWISTED), ([], grid(7, 2)), (grid(2, 7), [])]
    return told


def tuples_of_too_many():
    told = [(line(14), [[]]), ([[]], line(14)), (apart(14), apart(1)), (apart(7), line(8)), (line(14), line(14))]
    return told + [(grown_order(many, many, 2), grown_order(15 - many, many, 2)) for many in range(1, 15)]


class LaidTest(unittest.TestCase):
    def assert_laid(self, one, other, told, is_on_top):
        """Asks of each two things, by the words."""
        self.assertIs(is_order(told), True)
        many = len(one)
        self.assertEqual(len(told), many + len(other))
        for low, high in itertools.product(range(len(told)), repeat=2):
            if low < many and high < many:
                wanted = low in one[high]
            elif low >= many and high >= many:
                wanted = low - many in other[high - many]
            else:
                wanted = is_on_top and low < many
            self.assertEqual(low in told[high], wanted, (one, other, told))


class Beside(LaidTest):
    def test_ordinary(self):
        self.assertEqual(beside([], []), [])
        self.assertEqual(beside([[]], []), [[]])
        self.assertEqual(beside([], [[], [0]]), [[], [0]])
        self.assertEqual(beside([[], [0]], [[], [0], [0, 1]]), [[], [0], [], [2], [2, 3]])
        self.assertEqual(beside([[], [], [0, 1]], [[], []]), [[], [], [0, 1], [], []])

    def test_by_the_words(self):
        for one, other in tuples_that_fit():
            self.assert_laid(one, other, beside(one, other), False)

    def test_bands_are_merged(self):
        for one, other in tuples_that_fit():
            told = beside(one, other)
            self.assertEqual(bands(told), merged(bands(one), bands(other)))
            self.assertEqual(steps(told), added(steps(one), steps(other)))

    def test_full(self):
        for one, other in tuples_of_too_many():
            check_refusal(self, Full, beside, one, other)

    def test_three_orders(self):
        for one, other, third in itertools.product(small_orders()[::6] + [TWISTED[:4]], repeat=3):
            self.assertEqual(beside(beside(one, other), third), beside(one, beside(other, third)))

    def test_point_2(self):
        for one, other in [([], []), ([[]], []), ([], [[], [0]]), (TWISTED, grid(4, 2)), (line(3), apart(3))]:
            check_point_2(self, beside, one, other)
        beside(TWISTED, TWISTED)[4].append("spoilt")
        self.assertEqual(beside(TWISTED, TWISTED)[:6], TWISTED)


class LaidOn(LaidTest):
    def test_ordinary(self):
        self.assertEqual(laid_on([], []), [])
        self.assertEqual(laid_on([[]], []), [[]])
        self.assertEqual(laid_on([], [[], [0]]), [[], [0]])
        self.assertEqual(laid_on([[], []], [[], [0], []]), [[], [], [0, 1], [0, 1, 2], [0, 1]])
        self.assertEqual(laid_on([[], [0]], [[]]), [[], [0], [0, 1]])

    def test_by_the_words(self):
        for one, other in tuples_that_fit():
            self.assert_laid(one, other, laid_on(one, other), True)

    def test_bands_are_added(self):
        for one, other in tuples_that_fit():
            told = laid_on(one, other)
            self.assertEqual(bands(told), added(bands(one), bands(other)))
            self.assertEqual(steps(told), merged(steps(one), steps(other)))

    def test_full(self):
        for one, other in tuples_of_too_many():
            check_refusal(self, Full, laid_on, one, other)

    def test_three_orders(self):
        for one, other, third in itertools.product(small_orders()[::6] + [TWISTED[:4]], repeat=3):
            self.assertEqual(laid_on(laid_on(one, other), third), laid_on(one, laid_on(other, third)))

    def test_point_2(self):
        for one, other in [([], []), ([[]], []), ([], [[], [0]]), (TWISTED, grid(4, 2)), (apart(3), line(3))]:
            check_point_2(self, laid_on, one, other)
        laid_on(TWISTED, TWISTED)[4].append("spoilt")
        self.assertEqual(laid_on(TWISTED, TWISTED)[:6], TWISTED)


class TurnedOver(unittest.TestCase):
    def test_the_same_bands(self):
        for order in small_orders() + all_orders(5)[::3] + [TWISTED] + orders_of_fourteen():
            self.assertEqual(bands(turned(order)), bands(order), order)
            self.assertEqual(steps(turned(order)), steps(order), order)

    def test_both_turned_over(self):
        for one, other in tuples_that_fit()[::3]:
            self.assertEqual(turned(laid_on(one, other)), laid_on(turned(other), turned(one)))
            self.assertEqual(turned(beside(one, other)), beside(turned(other), turned(one)))
