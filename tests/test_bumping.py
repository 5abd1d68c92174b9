"""Points 20 and 21, and 2 and 3 for them: bumping a row, and bringing it back."""

import itertools
import unittest

from bandorder.bumping import bumped, unbumped
from bandorder.errors import NoTables
from bandorder.growth import stairs
from bandorder.rows import order_of

from tests.helpers import (
    all_rows_of, check_point_2, check_refusal, longer_rows, mixed_row, rows_to_try, shapes_of,
)


def bumped_by_the_words(row):
    first, second = [], []
    for place, number in enumerate(row):
        at = 0
        while at < len(first) and any(other > number for other in first[at]):
            least = min(other for other in first[at] if other > number)
            spot = first[at].index(least)
            first[at][spot] = number
            number = least
            at += 1
        if at == len(first):
            first.append([])
            second.append([])
        first[at].append(number)
        second[at].append(place)
    return first, second


def is_grid_by_the_words(rows):
    """Whether a number may stand at each place: greater than the one at its left, and than the one ahead."""
    lengths = [len(row) for row in rows]
    if 0 in lengths or lengths != sorted(lengths, reverse=True):
        return False
    spots = {(at, place): number for at, row in enumerate(rows) for place, number in enumerate(row)}
    return all(
        spots.get((at, place - 1), number - 1) < number and spots.get((at - 1, place), number - 1) < number
        for (at, place), number in spots.items()
    )


def cut(numbers, lengths):
    """The numbers in lists of these lengths."""
    ends = list(itertools.accumulate(lengths))
    return [list(numbers[end - length:end]) for end, length in zip(ends, lengths)]


def grids(lengths):
    """All lists of lists of such lengths with the numbers from 0 on in which rows and columns rise."""
    told = [cut(numbers, lengths) for numbers in itertools.permutations(range(sum(lengths)))]
    return [rows for rows in told if is_grid_by_the_words(rows)]


def all_lists(most_lists, most_numbers, numbers):
    """All lists of lists of these numbers, so many at most."""
    told = []
    for many in range(most_lists + 1):
        for lengths in itertools.product(range(most_numbers + 1), repeat=many):
            if sum(lengths) <= most_numbers:
                told += [cut(row, lengths) for row in itertools.product(numbers, repeat=sum(lengths))]
    return told


class Bumped(unittest.TestCase):
    def test_ordinary(self):
        self.assertEqual(bumped([]), ([], []))
        self.assertEqual(bumped([7]), ([[7]], [[0]]))
        self.assertEqual(bumped([1, 2]), ([[1, 2]], [[0, 1]]))
        self.assertEqual(bumped([2, 1]), ([[1], [2]], [[0], [1]]))
        self.assertEqual(bumped([30, 10, 40, 20]), ([[10, 20], [30, 40]], [[0, 2], [1, 3]]))
        self.assertEqual(bumped([5, -2, 9, 4, -7, 6]), ([[-7, 4, 6], [-2, 9], [5]], [[0, 2, 5], [1, 3], [4]]))
        self.assertEqual(bumped([10 ** 60 - 1, -(10 ** 60 - 1), 0]),
                         ([[-(10 ** 60 - 1), 0], [10 ** 60 - 1]], [[0, 2], [1]]))

    def test_rising_and_falling(self):
        row = [at * at - 20 for at in range(14)]
        self.assertEqual(bumped(row), ([row], [list(range(14))]))
        self.assertEqual(bumped(row[::-1]), ([[number] for number in row], [[place] for place in range(14)]))

    def test_by_the_words(self):
        for row in rows_to_try():
            told = bumped(row)
            self.assertIs(type(told), tuple)
            self.assertEqual(told, bumped_by_the_words(row))

    def test_the_second_list_is_the_stairs(self):
        for row in rows_to_try():
            first, second = bumped(row)
            self.assertEqual(second, stairs(order_of(row)), row)
            self.assertEqual([len(numbers) for numbers in first], [len(places) for places in second])

    def test_point_2(self):
        for row in [[], [7], [30, 10, 40, 20], mixed_row(14, 3, 10 ** 60 - 1)]:
            check_point_2(self, bumped, row)


class Unbumped(unittest.TestCase):
    def assert_no_tables(self, first, second):
        check_refusal(self, NoTables, unbumped, first, second)

    def test_ordinary(self):
        self.assertEqual(unbumped([], []), [])
        self.assertEqual(unbumped([[7]], [[0]]), [7])
        self.assertEqual(unbumped([[1], [2]], [[0], [1]]), [2, 1])
        self.assertEqual(unbumped([[10, 20], [30, 40]], [[0, 2], [1, 3]]), [30, 10, 40, 20])
        self.assertEqual(unbumped([[10, 20], [30, 40]], [[0, 1], [2, 3]]), [30, 40, 10, 20])
        self.assertEqual(unbumped([[-7, 4, 6], [-2, 9], [5]], [[0, 2, 5], [1, 3], [4]]), [5, -2, 9, 4, -7, 6])

    def test_back_again(self):
        for row in rows_to_try() + all_rows_of(6):
            self.assertEqual(unbumped(*bumped(row)), row)

    def test_each_two_grids_of_one_shape_come_from_a_row(self):
        for shape in [shape for many in range(6) for shape in shapes_of(many)]:
            for first, second in itertools.product(grids(shape), repeat=2):
                row = unbumped(first, second)
                self.assertEqual(sorted(row), list(range(sum(shape))))
                self.assertEqual(bumped_by_the_words(row), (first, second))

    def test_unlike_lengths(self):
        for first, second in [
            ([], [[0]]), ([[0]], []), ([[0, 1]], [[0], [1]]), ([[0], [1]], [[0, 1]]), ([[0, 1], [2]], [[0, 1, 2]]),
            ([[0, 1]], [[0]]), ([[0]], [[0, 1]]), ([[0, 1], [2]], [[0, 1]]), ([[0, 1]], [[0, 1], [2]]),
        ]:
            self.assert_no_tables(first, second)

    def test_empty_lists_and_longer_ones(self):
        for first, second in [
            ([[]], [[]]), ([[], []], [[], []]), ([[]], []), ([], [[]]), ([[0], []], [[0], []]), ([[0]], [[0], []]),
            ([[0], []], [[0]]), ([[], [0]], [[], [0]]), ([[0], [1, 2]], [[0], [1, 2]]),
            ([[0, 3], [1, 4], [2, 5, 6]], [[0, 3], [1, 4], [2, 5, 6]]), ([[]] * 14, [[]] * 14),
        ]:
            self.assert_no_tables(first, second)

    def test_rows_or_columns_that_do_not_rise(self):
        good = [[0, 1], [2, 3]]
        for bad in [[[1, 0], [2, 3]], [[0, 1], [3, 2]], [[0, 2], [3, 1]], [[2, 3], [0, 1]], [[0, 3], [1, 2]]]:
            self.assert_no_tables(bad, good)
            self.assert_no_tables(good, bad)
            self.assert_no_tables(bad, bad)

    def test_a_number_twice(self):
        for bad in [[[1, 1]], [[1], [1]], [[1, 2], [2]], [[0, 1], [1, 2]], [[0, 1, 5], [3, 5]]]:
            grid = cut(range(14), [len(row) for row in bad])
            self.assert_no_tables(bad, grid)
            self.assert_no_tables(grid, bad)

    def test_other_places(self):
        for second in [
            [[1, 2], [3]], [[0, 1], [3]], [[0, 2], [3]], [[-1, 0], [1]], [[0, 10 ** 59], [1]], [[0, 1], [1]],
            [[-2, -1], [0]], [[0, 1], [10 ** 60 - 1]],
        ]:
            self.assert_no_tables([[4, 6], [5]], second)

    def test_spoilt_answers(self):
        for row in longer_rows()[::3]:
            first, second = bumped(row)
            self.assert_no_tables(first, second[:-1])
            self.assert_no_tables(first[:-1], second)
            self.assert_no_tables(first, second + [[]])
            self.assert_no_tables(first, second + [[14]])
            self.assert_no_tables(first + [[10 ** 60]], second)
            self.assert_no_tables(first, [[place + 1 for place in places] for places in second])
            self.assert_no_tables([numbers[::-1] for numbers in first][::-1], second)
            self.assert_no_tables(first, [places[::-1] for places in second][::-1])

    def test_all_small_lists(self):
        known_rows = {repr(bumped_by_the_words(row)): list(row)
                       for many in range(4) for row in itertools.permutations(range(3), many)}
        few = all_lists(3, 2, range(3))
        more = all_lists(3, 3, range(3))
        good = [rows for many in range(4) for shape in shapes_of(many) for rows in grids(shape)]
        tried = list(itertools.product(few, few))
        tried += list(itertools.product(good, more)) + list(itertools.product(more, good))
        for first, second in tried:
            row = known_rows.get(repr((first, second)))
            if row is None:
                with self.assertRaises(NoTables, msg=(first, second)):
                    unbumped(first, second)
            else:
                self.assertEqual(unbumped(first, second), row)

    def test_point_2(self):
        for row in [[], [7], [30, 10, 40, 20], mixed_row(14, 4, 10 ** 60 - 1)]:
            check_point_2(self, unbumped, *bumped(row))

    def test_one_list_handed_in_twice(self):
        rows = [[0, 1], [2]]
        self.assertEqual(unbumped(rows, rows), [0, 2, 1])
        self.assertEqual(rows, [[0, 1], [2]])
