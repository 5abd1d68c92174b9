"""Points 25 and 28, and 2 for them: tables of ties, and their lengths."""

import unittest

from bandorder.bands import bands
from bandorder.shapes import is_beneath
from bandorder.tables import power, rank_of
from bandorder.ties import is_ties, lengths

from tests.helpers import all_orders, apart, check_point_2, grown_order, line, small_orders
from tests.reckoning import GREAT, noughts, rank_by_fractions
from tests.tying import TWISTED, drawn_ties, great_ties, lengths_by_the_words, ties_from, tuples_to_try


def with_one_more(table, row, column, number):
    told = [list(numbers) for numbers in table]
    told[row][column] = number
    return told


class IsTies(unittest.TestCase):
    def test_of_no_things(self):
        self.assertIs(is_ties([], []), True)

    def test_ordinary(self):
        self.assertIs(is_ties([[]], [[0]]), True)
        self.assertIs(is_ties([[]], [[1]]), False)
        self.assertIs(is_ties([[], [0]], [[0, 7], [0, 0]]), True)
        self.assertIs(is_ties([[], [0]], [[0, 0], [7, 0]]), False)
        self.assertIs(is_ties([[], []], [[0, 7], [0, 0]]), False)
        self.assertIs(is_ties([[], [0], [0]], [[0, -1, GREAT], [0, 0, 0], [0, 0, 0]]), True)
        self.assertIs(is_ties([[], [0], [0]], [[0, -1, GREAT], [0, 0, 1], [0, 0, 0]]), False)

    def test_any_numbers_at_the_ties(self):
        for order, table in tuples_to_try():
            self.assertIs(is_ties(order, table), True, (order, table))

    def test_one_number_more_at_any_other_place(self):
        for order in small_orders() + [TWISTED, line(8), apart(8), grown_order(8, 3, 2)]:
            for table in [ties_from(order, [0]), ties_from(order, [1, -2, GREAT])]:
                for row in range(len(order)):
                    for column in range(len(order)):
                        for number in [1, -1, GREAT]:
                            told = is_ties(order, with_one_more(table, row, column, number))
                            self.assertIs(told, row in order[column], (order, row, column))

    def test_point_2(self):
        for order, table in tuples_to_try()[::40]:
            check_point_2(self, is_ties, order, table)


class Lengths(unittest.TestCase):
    def test_of_no_things(self):
        self.assertEqual(lengths([]), [])

    def test_ordinary(self):
        self.assertEqual(lengths([[0]]), [1])
        self.assertEqual(lengths([[0, 3], [0, 0]]), [2])
        self.assertEqual(lengths(noughts(8, 8)), [1] * 8)
        self.assertEqual(lengths([[0, 1, 0], [0, 0, 1], [0, 0, 0]]), [3])
        self.assertEqual(lengths([[0, 1, 5], [0, 0, 0], [0, 0, 0]]), [2, 1])
        self.assertEqual(lengths([[0, 0, 5], [0, 0, -GREAT], [0, 0, 0]]), [2, 1])
        self.assertEqual(lengths([[0, 0, 1, 1], [0, 0, 1, 1], [0, 0, 0, 0], [0, 0, 0, 0]]), [2, 1, 1])
        self.assertEqual(lengths([[0, 0, 1, 1], [0, 0, 1, 2], [0, 0, 0, 0], [0, 0, 0, 0]]), [2, 2])
        self.assertEqual(lengths(ties_from(line(8), [GREAT])), [8])

    def test_where_ways_undo_one_another(self):
        self.assertEqual(lengths([[0, 1, 1, 0], [0, 0, 0, 1], [0, 0, 0, 1], [0, 0, 0, 0]]), [3, 1])
        self.assertEqual(lengths([[0, 1, 1, 0], [0, 0, 0, 1], [0, 0, 0, -1], [0, 0, 0, 0]]), [2, 2])
        self.assertEqual(lengths([[0, GREAT, 1, 0], [0, 0, 0, 1], [0, 0, 0, -GREAT], [0, 0, 0, 0]]), [2, 2])
        self.assertEqual(lengths([[0, GREAT, 1, 0], [0, 0, 0, 1], [0, 0, 0, 1 - GREAT], [0, 0, 0, 0]]), [3, 1])

    def test_a_shape_of_as_many_as_things(self):
        for order, table in tuples_to_try():
            told = lengths(table)
            self.assertIs(type(told), list)
            self.assertEqual({type(number) for number in told}, {int} if order else set())
            self.assertEqual(told, sorted(told, reverse=True))
            self.assertTrue(all(number >= 1 for number in told))
            self.assertEqual(sum(told), len(order))

    def test_by_the_words(self):
        for order, table in tuples_to_try():
            self.assertEqual(lengths(table), lengths_by_the_words(table), table)

    def test_the_ranks_fall_as_they_say(self):
        for order, table in tuples_to_try()[::5]:
            told = lengths(table)
            ranks = [rank_by_fractions(power(table, k)) for k in range(len(order) + 3)]
            for long in range(1, len(ranks)):
                self.assertEqual(ranks[long - 1] - ranks[long], len([one for one in told if one >= long]), table)
                self.assertEqual(rank_of(power(table, long)), ranks[long])

    def test_point_2(self):
        for order, table in tuples_to_try()[::40]:
            check_point_2(self, lengths, table)


class Beneath(unittest.TestCase):
    def assert_beneath(self, order, table):
        told, most = lengths(table), bands(order)
        for many in range(1, len(order) + 1):
            self.assertLessEqual(sum(told[:many]), sum(most[:many]), (order, table))
        self.assertIs(is_beneath(told, most), True)
        return told == most

    def test_whatever_table_is_taken(self):
        alike = [self.assert_beneath(order, table) for order, table in tuples_to_try()]
        self.assertEqual(set(alike), {True, False})

    def test_of_many_orders(self):
        for seed, order in enumerate(small_orders() + all_orders(5)[::4]):
            self.assert_beneath(order, drawn_ties(order, seed, [0, 1, -1, 2]))
            self.assert_beneath(order, great_ties(order, seed))

    def test_of_orders_of_eight(self):
        for seed in range(60):
            order = grown_order(8, seed, 1 + seed % 4)
            self.assert_beneath(order, drawn_ties(order, seed, [0, 1, 1, 2, -1]))
            self.assert_beneath(order, great_ties(order, seed))
