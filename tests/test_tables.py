"""Point 23, and 2 for it: products, powers and ranks of tables."""

import itertools
import unittest

from bandorder.tables import power, product, rank_of

from tests.helpers import check_point_2
from tests.reckoning import (
    GREAT, great_tables, noughts, product_by_the_words, rank_by_fractions, small_tables, table_by_chance,
    table_of_rank, tables_to_try, turned_table, unit_by_the_words,
)


def tables_that_fit():
    """Tuples of two tables that have a product."""
    small = [table for table in small_tables()[::7] if table]
    told = [(one, other) for one, other in itertools.product(small, repeat=2) if len(one[0]) == len(other)]
    for seed, (tall, middle, wide) in enumerate(itertools.product((1, 2, 9, 10), repeat=3)):
        for most in (3, GREAT):
            told.append((table_by_chance(tall, middle, seed, most), table_by_chance(middle, wide, seed + 50, most)))
    return told


def tables_for_powers():
    told = [[], [[0]], [[1]], [[-1]], [[GREAT]], [[-GREAT]], [[1, 1], [0, 1]], [[0, 1], [-1, 0]], [[0, 1], [0, 0]]]
    told += [noughts(10, 10), unit_by_the_words(10), [[int(row < column) for column in range(10)] for row in range(10)]]
    return told + [table_by_chance(many, many, many, most) for many in (2, 3, 5, 10) for most in (3, GREAT)]


def has_a_whole_minor(table, size):
    """Whether so many rows and columns have a determinant that is not nought, by adding up all products."""
    for rows in itertools.combinations(table, size):
        for columns in itertools.combinations(range(len(table[0])), size):
            if determinant([[row[column] for column in columns] for row in rows]) != 0:
                return True
    return False


def determinant(table):
    if not table:
        return 1
    return sum(
        (-1) ** at * number * determinant([row[:at] + row[at + 1:] for row in table[1:]])
        for at, number in enumerate(table[0])
    )


class Product(unittest.TestCase):
    def test_ordinary(self):
        self.assertEqual(product([[3]], [[-4]]), [[-12]])
        self.assertEqual(product([[1, 2]], [[3], [4]]), [[11]])
        self.assertEqual(product([[1], [2]], [[3, 4]]), [[3, 4], [6, 8]])
        self.assertEqual(product([[1, 2], [3, 4]], [[0, 1], [1, 0]]), [[2, 1], [4, 3]])
        self.assertEqual(product([[0, 1], [1, 0]], [[1, 2], [3, 4]]), [[3, 4], [1, 2]])
        self.assertEqual(product([[GREAT, 1]], [[GREAT], [-1]]), [[GREAT * GREAT - 1]])

    def test_by_the_words(self):
        for one, other in tables_that_fit():
            self.assertEqual(product(one, other), product_by_the_words(one, other))

    def test_of_what_was_told(self):
        table = table_by_chance(10, 10, 5, GREAT)
        told = product(product(table, table), product(table, table))
        self.assertEqual(told, product_by_the_words(table, product_by_the_words(
            table, product_by_the_words(table, table))))

    def test_point_2(self):
        for one, other in [([[3]], [[-4]]), ([[1, 2]], [[3], [4]]), ([[1, 2], [3, 4]], [[1, 0], [0, 1]])]:
            check_point_2(self, product, one, other)
        table = [[1, 2], [3, 4]]
        product(table, table)[0][0] = "spoilt"
        self.assertEqual(table, [[1, 2], [3, 4]])


class Power(unittest.TestCase):
    def test_ordinary(self):
        self.assertEqual(power([[2]], 0), [[1]])
        self.assertEqual(power([[2]], 1), [[2]])
        self.assertEqual(power([[-2]], 19), [[-(2 ** 19)]])
        self.assertEqual(power([[2]], 20), [[2 ** 20]])
        self.assertEqual(power([[1, 1], [0, 1]], 20), [[1, 20], [0, 1]])
        self.assertEqual(power([[1, 2], [3, 4]], 2), [[7, 10], [15, 22]])
        self.assertEqual(power([[1, 2], [3, 4]], 3), [[37, 54], [81, 118]])
        self.assertEqual(power([[0, 1, 0], [0, 0, 1], [0, 0, 0]], 2), [[0, 0, 1], [0, 0, 0], [0, 0, 0]])
        self.assertEqual(power([[0, 1, 0], [0, 0, 1], [0, 0, 0]], 3), noughts(3, 3))
        self.assertEqual(power(noughts(3, 3), 0), unit_by_the_words(3))

    def test_of_the_empty_table(self):
        for k in range(21):
            self.assertEqual(power([], k), [])

    def test_by_the_words(self):
        for table in tables_for_powers():
            told = unit_by_the_words(len(table))
            for k in range(21):
                self.assertEqual(power(table, k), told)
                told = product_by_the_words(told, table) if table else []

    def test_point_2(self):
        for table in [[], [[2]], [[1, 2], [3, 4]], unit_by_the_words(3)]:
            for k in [0, 1, 2, 20]:
                check_point_2(self, power, table, k)


class RankOf(unittest.TestCase):
    def test_ordinary(self):
        self.assertEqual(rank_of([]), 0)
        self.assertEqual(rank_of([[0]]), 0)
        self.assertEqual(rank_of([[-3]]), 1)
        self.assertEqual(rank_of(noughts(10, 10)), 0)
        self.assertEqual(rank_of(unit_by_the_words(10)), 10)
        self.assertEqual(rank_of([[1, 2], [2, 4]]), 1)
        self.assertEqual(rank_of([[1, 2], [2, 5]]), 2)
        self.assertEqual(rank_of([[2, 3], [4, 6], [6, 9]]), 1)
        self.assertEqual(rank_of([[1, 2, 3], [4, 5, 6], [7, 8, 9]]), 2)
        self.assertEqual(rank_of([[0, 0, 3], [0, 0, 5], [0, 2, 1], [0, 4, 2]]), 2)
        self.assertEqual(rank_of([[1, 0, 0, 0]]), 1)
        self.assertEqual(rank_of([[0], [0], [7]]), 1)
        self.assertEqual(rank_of([[GREAT, GREAT - 1], [GREAT - 1, GREAT - 2]]), 2)
        self.assertEqual(rank_of([[GREAT, GREAT - 9], [-GREAT, 9 - GREAT]]), 1)

    def test_by_determinants(self):
        for table in small_tables()[1:]:
            most = min(len(table), len(table[0]))
            sizes = [size for size in range(most + 1) if has_a_whole_minor(table, size)]
            self.assertEqual(rank_of(table), max(sizes), table)

    def test_by_fractions(self):
        for table in great_tables():
            self.assertEqual(rank_of(table), rank_by_fractions(table), table)

    def test_rows_made_of_others(self):
        for seed in range(10):
            for rank in range(1, 11):
                table = table_of_rank(10, 10, rank, seed, GREAT)
                self.assertLessEqual(rank_of(table), rank)
                self.assertEqual(rank_of(table), rank_by_fractions(table))

    def test_the_same_by_columns(self):
        for table in tables_to_try():
            self.assertEqual(rank_of(table), rank_of(turned_table(table)), table)

    def test_of_what_was_told(self):
        for table in [table_by_chance(10, 10, 8, GREAT), table_of_rank(10, 10, 6, 8, GREAT)]:
            told = power(table, 20)
            self.assertEqual(rank_of(told), rank_by_fractions(table))
        table = [[(row + 2) * int(row < column) for column in range(10)] for row in range(10)]
        self.assertEqual([rank_of(power(table, k)) for k in range(12)], [10, 9, 8, 7, 6, 5, 4, 3, 2, 1, 0, 0])

    def test_point_2(self):
        for table in [[], [[0]], [[0, 1], [2, 3]], [[1, 2], [2, 4]]]:
            check_point_2(self, rank_of, table)
