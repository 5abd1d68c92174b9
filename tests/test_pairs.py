"""Points 12, 13 and 14, and 2 for them: pairs, the fewest chains, the widest crowd."""

import itertools
import unittest

from bandorder.bands import bands, steps
from bandorder.errors import NoPair
from bandorder.pairs import by_chains, by_crowds, fewest_chains, widest

from tests.helpers import (
    all_orders, apart, check_point_2, check_refusal, grid, grown_order, line, orders_of_fourteen, small_orders,
)

WRONG_NUMBERS = [-1, -2, -14, 10 ** 59, 10 ** 60 - 1, -(10 ** 59), -(10 ** 60 - 1)]
TWISTED = [[], [], [0], [0, 2], [0, 1, 2], [0, 1, 2, 4]]


def some_orders():
    told = small_orders() + all_orders(5)[::2] + [TWISTED]
    return told + [grown_order(many, seed, 1 + seed % 4) for many in range(6, 14) for seed in range(12)]


def all_some_orders():
    return some_orders() + orders_of_fourteen()


class PairTest(unittest.TestCase):
    """Asks by the words of 7 and 12, without the program's own judging."""

    def assert_row(self, order, row, is_tied):
        self.assertIs(type(row), list)
        self.assertTrue(row)
        self.assertEqual(row, sorted(set(row)))
        self.assertTrue(set(row) <= set(range(len(order))))
        self.assertEqual({type(thing) for thing in row}, {int})
        for low, high in itertools.combinations(row, 2):
            self.assertEqual(low in order[high], is_tied, (order, row))

    def assert_rows(self, order, rows, is_tied):
        self.assertIs(type(rows), list)
        for row in rows:
            self.assert_row(order, row, is_tied)
        for one, other in itertools.combinations(rows, 2):
            self.assertFalse(set(one) & set(other), (order, rows))

    def assert_pair(self, order, pair):
        self.assertIs(type(pair), tuple)
        self.assertEqual(len(pair), 2)
        chains, crowds = pair
        self.assert_rows(order, chains, True)
        self.assert_rows(order, crowds, False)
        held = {thing for row in chains + crowds for thing in row}
        self.assertEqual(held, set(range(len(order))), (order, pair))
        for chain, crowd in itertools.product(chains, crowds):
            self.assertTrue(set(chain) & set(crowd), (order, pair))


class ByChains(PairTest):
    def test_of_no_things(self):
        self.assertEqual(by_chains([], 0), ([], []))
        for many in [1, 2] + WRONG_NUMBERS:
            check_refusal(self, NoPair, by_chains, [], many)

    def test_where_there_is_just_one(self):
        self.assertEqual(by_chains([[]], 0), ([], [[0]]))
        self.assertEqual(by_chains([[]], 1), ([[0]], [[0]]))

    def test_each_number_of_chains(self):
        for order in all_some_orders():
            rows = bands(order)
            for many in range(len(rows) + 1):
                pair = by_chains(order, many)
                self.assert_pair(order, pair)
                beside = rows[max(many, 1) - 1] if rows else 0
                self.assertEqual((len(pair[0]), len(pair[1])), (many, beside), (order, pair))

    def test_they_hold_what_the_bands_say(self):
        for order in all_some_orders():
            rows, columns = bands(order), steps(order)
            for many in range(len(rows) + 1):
                chains, crowds = by_chains(order, many)
                self.assertEqual(sum(map(len, chains)), sum(rows[:many]))
                self.assertEqual(sum(map(len, crowds)), sum(columns[:len(crowds)]))

    def test_refused(self):
        for order in all_some_orders():
            for many in [len(bands(order)) + 1, len(bands(order)) + 2] + WRONG_NUMBERS:
                check_refusal(self, NoPair, by_chains, order, many)

    def test_point_2(self):
        for order in [[], [[]], TWISTED, apart(3), line(4), grid(7, 2)]:
            for many in range(len(bands(order)) + 1):
                check_point_2(self, by_chains, order, many)


class ByCrowds(PairTest):
    def test_of_no_things(self):
        self.assertEqual(by_crowds([], 0), ([], []))
        for many in [1, 2] + WRONG_NUMBERS:
            check_refusal(self, NoPair, by_crowds, [], many)

    def test_where_there_is_just_one(self):
        self.assertEqual(by_crowds([[]], 0), ([[0]], []))
        self.assertEqual(by_crowds([[]], 1), ([[0]], [[0]]))

    def test_each_number_of_crowds(self):
        for order in all_some_orders():
            columns = steps(order)
            for many in range(len(columns) + 1):
                pair = by_crowds(order, many)
                self.assert_pair(order, pair)
                beside = columns[max(many, 1) - 1] if columns else 0
                self.assertEqual((len(pair[1]), len(pair[0])), (many, beside), (order, pair))

    def test_they_hold_what_the_steps_say(self):
        for order in all_some_orders():
            rows, columns = bands(order), steps(order)
            for many in range(len(columns) + 1):
                chains, crowds = by_crowds(order, many)
                self.assertEqual(sum(map(len, crowds)), sum(columns[:many]))
                self.assertEqual(sum(map(len, chains)), sum(rows[:len(chains)]))

    def test_refused(self):
        for order in all_some_orders():
            for many in [len(steps(order)) + 1, len(steps(order)) + 2] + WRONG_NUMBERS:
                check_refusal(self, NoPair, by_crowds, order, many)

    def test_point_2(self):
        for order in [[], [[]], TWISTED, apart(3), line(4), grid(7, 2)]:
            for many in range(len(steps(order)) + 1):
                check_point_2(self, by_crowds, order, many)


class FewestChainsAndWidest(PairTest):
    def test_of_no_things(self):
        self.assertEqual(fewest_chains([]), [])
        self.assertEqual(widest([]), [])

    def test_ordinary(self):
        self.assertEqual(fewest_chains(line(14)), [list(range(14))])
        self.assertEqual(widest(apart(14)), list(range(14)))
        self.assertEqual(sorted(fewest_chains(apart(14))), [[thing] for thing in range(14)])
        self.assertEqual(widest([[], [0], [0], [0, 1, 2]]), [1, 2])
        self.assertEqual(sorted(fewest_chains(TWISTED)), [[0, 2, 3], [1, 4, 5]])

    def test_each_shows_the_other(self):
        for order in all_some_orders():
            chains, crowd = fewest_chains(order), widest(order)
            self.assert_rows(order, chains, True)
            self.assertEqual(sorted(sum(chains, [])), list(range(len(order))))
            if order:
                self.assert_row(order, crowd, False)
            self.assertEqual(len(crowd), len(chains))

    def test_point_2(self):
        for order in [[], [[]], TWISTED, apart(3), line(4), grid(7, 2)]:
            check_point_2(self, fewest_chains, order)
            check_point_2(self, widest, order)
