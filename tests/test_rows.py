"""Points 19 and 22, and 2 and 3 for them: rows of numbers, their orders, places and exchanges."""

import unittest

from bandorder.bands import bands
from bandorder.bumping import bumped
from bandorder.errors import NoSwap
from bandorder.orders import is_order
from bandorder.rows import exchanged, order_of, places_of, swapped

from tests.helpers import apart, check_point_2, check_refusal, line, longer_rows, mixed_row, rows_to_try

FAR_NUMBERS = [10 ** 59, 10 ** 60 - 1, -(10 ** 59), -(10 ** 60 - 1)]
SHORT_ROWS = [[], [0], [7], [-(10 ** 59)], [0, 1], [1, 0], [-5, 10 ** 59], [3, 2]]


def places_to_try(row):
    return list(range(-len(row) - 2, len(row) + 3)) + FAR_NUMBERS


def lies_between(number, one, other):
    return one < number < other or other < number < one


def may_be_exchanged(row, i):
    """By the words of 22."""
    if i < 0 or i + 1 >= len(row):
        return False
    ahead = i - 1 >= 0 and lies_between(row[i - 1], row[i], row[i + 1])
    return ahead or (i + 2 < len(row) and lies_between(row[i + 2], row[i], row[i + 1]))


def may_be_swapped(row, k):
    """By the words of 22: the number k - 1 or the number k + 2 stands between the numbers k and k + 1."""
    sizes = sorted(row)
    if k < 0 or k + 1 >= len(row):
        return False
    one, other = row.index(sizes[k]), row.index(sizes[k + 1])
    less = k - 1 >= 0 and lies_between(row.index(sizes[k - 1]), one, other)
    return less or (k + 2 < len(row) and lies_between(row.index(sizes[k + 2]), one, other))


def with_two_exchanged(row, one, other):
    told = list(row)
    told[one], told[other] = row[other], row[one]
    return told


class OrderOf(unittest.TestCase):
    def test_ordinary(self):
        self.assertEqual(order_of([]), [])
        self.assertEqual(order_of([5]), [[]])
        self.assertEqual(order_of([-5]), [[]])
        self.assertEqual(order_of([3, 1, 4, 2]), [[], [], [0, 1], [1]])
        self.assertEqual(order_of([-3, -1, -2, 0]), [[], [0], [0], [0, 1, 2]])
        self.assertEqual(order_of([-1, -10 ** 59, 10 ** 60 - 1, 10 ** 60 - 2]), [[], [], [0, 1], [0, 1]])

    def test_rising_and_falling(self):
        for row in [list(range(14)), list(range(-20, -6)), [10 ** 59 + at for at in range(14)]]:
            self.assertEqual(order_of(row), line(14))
            self.assertEqual(order_of(row[::-1]), apart(14))

    def test_by_the_words(self):
        for row in rows_to_try():
            order = order_of(row)
            self.assertTrue(is_order(order))
            self.assertEqual(len(order), len(row))
            for j in range(len(row)):
                for i in range(len(row)):
                    self.assertEqual(i in order[j], i < j and row[i] < row[j], row)

    def test_point_2(self):
        for row in [[], [5], [3, 1, 4, 2], mixed_row(14, 1, 10 ** 60 - 1)]:
            check_point_2(self, order_of, row)


class Exchanged(unittest.TestCase):
    def test_ordinary(self):
        self.assertEqual(exchanged([2, 1, 3], 1), [2, 3, 1])
        self.assertEqual(exchanged([2, 3, 1], 1), [2, 1, 3])
        self.assertEqual(exchanged([1, 3, 2], 0), [3, 1, 2])
        self.assertEqual(exchanged([3, 1, 2], 0), [1, 3, 2])
        self.assertEqual(exchanged([9, 5, -1, 8, 4], 2), [9, 5, 8, -1, 4])
        self.assertEqual(exchanged([10 ** 60 - 2, 0, 10 ** 60 - 1], 1), [10 ** 60 - 2, 10 ** 60 - 1, 0])

    def test_refused(self):
        for row, i in [
            ([1, 2, 3], 0), ([1, 2, 3], 1), ([3, 2, 1], 0), ([3, 2, 1], 1), ([2, 1, 3], 0), ([2, 3, 1], 0),
            ([1, 3, 2], 1), ([3, 1, 2], 1), ([2, 1, 3], -1), ([2, 1, 3], -2), ([2, 1, 3], 2), ([2, 1, 3], 3),
            ([1, 3, 0, 2], 3), ([1, 3, 0, 2], -3), ([2, 9, 3, 1, 4, 9 ** 9, 2 ** 9], 6),
        ]:
            check_refusal(self, NoSwap, exchanged, row, i)

    def test_not_by_a_number_farther_off(self):
        # 2 lies between 1 and 3, but stands neither right ahead of them nor right behind them.
        check_refusal(self, NoSwap, exchanged, [2, 0, 1, 3, 4], 2)
        check_refusal(self, NoSwap, exchanged, [0, 1, 3, 4, 2], 1)

    def test_short_rows(self):
        for row in SHORT_ROWS:
            for i in places_to_try(row):
                check_refusal(self, NoSwap, exchanged, row, i)

    def test_at_all_places(self):
        for row in rows_to_try():
            for i in places_to_try(row):
                if may_be_exchanged(row, i):
                    self.assertEqual(exchanged(row, i), with_two_exchanged(row, i, i + 1))
                else:
                    check_refusal(self, NoSwap, exchanged, row, i)

    def test_the_first_list_and_the_bands_stay(self):
        for row in rows_to_try():
            for i in range(len(row) - 1):
                if may_be_exchanged(row, i):
                    told = exchanged(row, i)
                    self.assertEqual(bumped(told)[0], bumped(row)[0], (row, i))
                    self.assertNotEqual(bumped(told)[1], bumped(row)[1], (row, i))

        for row in [row for row in rows_to_try() if len(row) < 5] + longer_rows()[::7]:
            for i in range(len(row) - 1):
                if may_be_exchanged(row, i):
                    self.assertEqual(bands(order_of(exchanged(row, i))), bands(order_of(row)))

    def test_back_again(self):
        for row in rows_to_try():
            for i in range(len(row) - 1):
                if may_be_exchanged(row, i):
                    self.assertEqual(exchanged(exchanged(row, i), i), row)

    def test_point_2(self):
        for row, i in [([2, 1, 3], 1), ([1, 3, 2], 0), ([9, 5, -1, 8, 4], 2)]:
            check_point_2(self, exchanged, row, i)


class Swapped(unittest.TestCase):
    def test_ordinary(self):
        self.assertEqual(swapped([10, 30, 20], 0), [20, 30, 10])
        self.assertEqual(swapped([20, 30, 10], 0), [10, 30, 20])
        self.assertEqual(swapped([20, 10, 30], 1), [30, 10, 20])
        self.assertEqual(swapped([30, 10, 20], 1), [20, 10, 30])
        self.assertEqual(swapped([10 ** 59, -7, 10 ** 60 - 1, 4, 0], 2), [4, -7, 10 ** 60 - 1, 10 ** 59, 0])

    def test_refused(self):
        for row, k in [
            ([1, 2, 3], 0), ([1, 2, 3], 1), ([3, 2, 1], 0), ([3, 2, 1], 1), ([1, 3, 2], 1), ([2, 3, 1], 1),
            ([2, 1, 3], 0), ([3, 1, 2], 0), ([1, 3, 2], -1), ([1, 3, 2], -3), ([1, 3, 2], 2), ([1, 3, 2], 3),
        ]:
            check_refusal(self, NoSwap, swapped, row, k)

    def test_not_by_a_number_farther_off(self):
        # 4 stands between 1 and 2, and 0 between 2 and 3, but neither is the next lesser or the next greater one.
        check_refusal(self, NoSwap, swapped, [1, 4, 2, 3, 0], 1)
        check_refusal(self, NoSwap, swapped, [4, 3, 0, 2, 1], 2)

    def test_short_rows(self):
        for row in SHORT_ROWS:
            for k in places_to_try(row):
                check_refusal(self, NoSwap, swapped, row, k)

    def test_of_all_sizes(self):
        for row in rows_to_try():
            sizes = sorted(row)
            for k in places_to_try(row):
                if may_be_swapped(row, k):
                    one, other = row.index(sizes[k]), row.index(sizes[k + 1])
                    self.assertEqual(swapped(row, k), with_two_exchanged(row, one, other))
                else:
                    check_refusal(self, NoSwap, swapped, row, k)

    def test_the_second_list_stays(self):
        for row in rows_to_try():
            for k in range(len(row) - 1):
                if may_be_swapped(row, k):
                    told = swapped(row, k)
                    self.assertEqual(bumped(told)[1], bumped(row)[1], (row, k))
                    self.assertNotEqual(bumped(told)[0], bumped(row)[0], (row, k))

    def test_point_2(self):
        for row, k in [([10, 30, 20], 0), ([20, 10, 30], 1), ([30, 10, 20], 1)]:
            check_point_2(self, swapped, row, k)


class PlacesOf(unittest.TestCase):
    def test_ordinary(self):
        self.assertEqual(places_of([]), [])
        self.assertEqual(places_of([7]), [0])
        self.assertEqual(places_of([30, 10, 40, 20]), [1, 3, 0, 2])
        self.assertEqual(places_of([5, -10 ** 59, 10 ** 60 - 1, 0]), [1, 3, 0, 2])
        self.assertEqual(places_of(list(range(14))[::-1]), list(range(14))[::-1])

    def test_by_the_words(self):
        for row in rows_to_try():
            places = places_of(row)
            self.assertEqual(len(places), len(row))
            self.assertEqual([row[place] for place in places], sorted(row))

    def test_what_it_is_bumped_into(self):
        for row in rows_to_try():
            first, second = bumped(row)
            counts = {number: k for k, number in enumerate(sorted(row))}
            counted = [[counts[number] for number in numbers] for numbers in first]
            self.assertEqual(bumped(places_of(row)), (second, counted), row)

    def test_point_2(self):
        for row in [[], [7], [30, 10, 40, 20], mixed_row(14, 2, 10 ** 60 - 1)]:
            check_point_2(self, places_of, row)
