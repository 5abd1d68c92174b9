"""Points 16 and 17, and 2 for them: shapes."""

import itertools
import unittest

from bandorder.errors import NoShape
from bandorder.shapes import added, box_at, by_columns, is_beneath, is_shape, is_within, merged

from tests.helpers import check_point_2, check_refusal, shapes_of, small_shapes

GREAT_SHAPES = [[100] * 40, [100] * 39 + [1], list(range(100, 60, -1)), [1] * 40, [100], [40, 1], [7, 7, 3, 1, 1]]


def some_shapes():
    return small_shapes(6) + GREAT_SHAPES


def filled(shape, many):
    return shape + [0] * (many - len(shape))


def side_by_side(one, other):
    many = max(len(one), len(other))
    return list(zip(filled(one, many), filled(other, many)))


def grown_at(shape, place):
    if place == len(shape):
        return shape + [1]
    return shape[:place] + [shape[place] + 1] + shape[place + 1:]


def next_shapes(shape):
    """Tuples (place, shape) of all shapes with one box more."""
    told = [(place, grown_at(shape, place)) for place in range(len(shape) + 1)]
    return [(place, next_one) for place, next_one in told if next_one == sorted(next_one, reverse=True)]


class IsShape(unittest.TestCase):
    def test_shapes(self):
        for row in some_shapes() + [[10 ** 60 - 1] * 40, [10 ** 59, 5, 5, 1]]:
            self.assertIs(is_shape(row), True, row)

    def test_no_shapes(self):
        for row in [
            [0], [-1], [1, 0], [3, 0], [0, 0], [2, -1], [1, 2], [3, 1, 2], [2, 2, 3], [5, 4, 3, 3, 4], [0, 1],
            [-(10 ** 60 - 1)], [10 ** 59, 10 ** 59 + 1], [1] * 39 + [0], [1] * 39 + [2], [100] * 39 + [-1],
        ]:
            self.assertIs(is_shape(row), False, row)

    def test_all_short_rows(self):
        for many in range(5):
            for row in itertools.product(range(-1, 4), repeat=many):
                self.assertIs(is_shape(list(row)), list(row) in shapes_of(sum(row)) if sum(row) >= 0 else False)

    def test_point_2(self):
        for row in [[], [3, 1], [0], [1, 2]]:
            check_point_2(self, is_shape, row)


class ByColumns(unittest.TestCase):
    def test_ordinary(self):
        self.assertEqual(by_columns([]), [])
        self.assertEqual(by_columns([1]), [1])
        self.assertEqual(by_columns([4]), [1, 1, 1, 1])
        self.assertEqual(by_columns([1, 1, 1]), [3])
        self.assertEqual(by_columns([4, 2, 2, 1]), [4, 3, 1, 1])
        self.assertEqual(by_columns([100] * 40), [40] * 100)

    def test_by_the_words(self):
        for shape in some_shapes():
            columns = by_columns(shape)
            counted = [sum(number >= tall for number in shape) for tall in range(1, 101)]
            self.assertEqual(columns, counted[:len(columns)])
            self.assertEqual(sum(columns), sum(shape))
            self.assertTrue(all(number > 0 for number in columns))

    def test_again_it_is_the_shape(self):
        for shape in some_shapes():
            self.assertEqual(by_columns(by_columns(shape)), shape)

    def test_point_2(self):
        for shape in [[], [1], [4, 2, 2, 1]]:
            check_point_2(self, by_columns, shape)


class IsWithin(unittest.TestCase):
    def test_ordinary(self):
        for one, other, told in [
            ([], [], True), ([], [1], True), ([1], [], False), ([2, 1], [2, 1, 1], True), ([2, 1, 1], [2, 1], False),
            ([2, 2], [3, 1, 1, 1], False), ([3, 1], [3, 2], True), ([3, 2], [3, 1], False), ([3], [2, 2], False),
            ([1] * 40, [100] * 39, False), ([100] * 39, [100] * 40, True),
        ]:
            self.assertIs(is_within(one, other), told, (one, other))

    def test_by_the_words(self):
        for one, other in itertools.product(some_shapes(), repeat=2):
            told = all(less <= more for less, more in side_by_side(one, other))
            self.assertIs(is_within(one, other), told, (one, other))

    def test_in_itself(self):
        for shape in some_shapes():
            self.assertIs(is_within(shape, list(shape)), True)

    def test_point_2(self):
        for one, other in [([], []), ([2, 1], [2, 1, 1]), ([3], [2, 2])]:
            check_point_2(self, is_within, one, other)


class BoxAt(unittest.TestCase):
    def test_ordinary(self):
        self.assertEqual(box_at([], [1]), 0)
        self.assertEqual(box_at([1], [2]), 0)
        self.assertEqual(box_at([1], [1, 1]), 1)
        self.assertEqual(box_at([3, 1, 1], [3, 2, 1]), 1)
        self.assertEqual(box_at([3, 1, 1], [3, 1, 1, 1]), 3)
        self.assertEqual(box_at([100] * 39, [100] * 39 + [1]), 39)
        self.assertEqual(box_at([100] * 39 + [99], [100] * 40), 39)

    def test_all_next_ones(self):
        for shape in some_shapes():
            for place, next_one in next_shapes(shape):
                self.assertEqual(box_at(shape, next_one), place, (shape, next_one))

    def test_all_others_are_refused(self):
        for one, other in itertools.product(some_shapes(), repeat=2):
            if other not in [next_one for place, next_one in next_shapes(one)]:
                check_refusal(self, NoShape, box_at, one, other)

    def test_refused(self):
        for one, other in [
            ([], []), ([1], []), ([2, 1], [2, 1]), ([2, 1], [2]), ([2, 1], [1, 1]), ([2, 1], [4, 1]),
            ([2, 1], [3, 2]), ([2, 1], [2, 1, 1, 1]), ([2, 1], [2, 1, 2]), ([2, 1], [3]), ([2, 2], [3, 1]),
            ([3, 1], [2, 2]), ([2], [1, 1]), ([1, 1], [2]), ([], [2]), ([], [1, 1]), ([2, 2, 1], [3, 2]),
            ([2, 1], [3, 1, 1]), ([3, 3, 1], [3, 2, 1]), ([2, 2, 1], [3, 1, 1, 1]),
        ]:
            check_refusal(self, NoShape, box_at, one, other)

    def test_point_2(self):
        for one, other in [([], [1]), ([3, 1, 1], [3, 2, 1])]:
            check_point_2(self, box_at, one, other)


class IsBeneath(unittest.TestCase):
    def test_ordinary(self):
        for one, other, told in [
            ([], [], True), ([], [1], True), ([1], [], False), ([1, 1], [2], True), ([2], [1, 1], False),
            ([2, 2], [3, 1], True), ([3, 1], [2, 2], False), ([3, 3], [4, 1, 1], False), ([4, 1, 1], [3, 3], False),
            ([2, 1, 1], [2, 2], True), ([2, 2], [2, 1, 1], False), ([1, 1, 1], [2], False), ([2], [1, 1, 1], False),
            ([1] * 40, [40], True), ([1] * 40, [39], False), ([40], [1] * 40, False),
        ]:
            self.assertIs(is_beneath(one, other), told, (one, other))

    def test_by_the_words(self):
        for one, other in itertools.product(some_shapes(), repeat=2):
            both = side_by_side(one, other)
            less = itertools.accumulate(number for number, beside in both)
            more = itertools.accumulate(beside for number, beside in both)
            told = all(low <= high for low, high in zip(less, more))
            self.assertIs(is_beneath(one, other), told, (one, other))

    def test_point_2(self):
        for one, other in [([], []), ([2, 1, 1], [2, 2]), ([3], [2, 2])]:
            check_point_2(self, is_beneath, one, other)


class MergedAndAdded(unittest.TestCase):
    def test_ordinary(self):
        self.assertEqual(merged([], []), [])
        self.assertEqual(merged([3, 1], []), [3, 1])
        self.assertEqual(merged([], [3, 1]), [3, 1])
        self.assertEqual(merged([3, 1], [4, 3, 2]), [4, 3, 3, 2, 1])
        self.assertEqual(added([], []), [])
        self.assertEqual(added([3, 1], []), [3, 1])
        self.assertEqual(added([], [3, 1]), [3, 1])
        self.assertEqual(added([3, 1], [4, 3, 2]), [7, 4, 2])
        self.assertEqual(added([4, 3, 2], [3, 1]), [7, 4, 2])

    def test_by_the_words(self):
        for one, other in itertools.product(some_shapes(), repeat=2):
            self.assertEqual(merged(one, other), sorted(one + other)[::-1])
            self.assertEqual(added(one, other), [less + more for less, more in side_by_side(one, other)])

    def test_merged_by_columns_is_added_of_the_columns(self):
        for one, other in itertools.product(small_shapes(6) + GREAT_SHAPES[2:], repeat=2):
            self.assertEqual(by_columns(merged(one, other)), added(by_columns(one), by_columns(other)))
            self.assertEqual(by_columns(added(one, other)), merged(by_columns(one), by_columns(other)))

    def test_point_2(self):
        for one, other in [([], []), ([3, 1], []), ([], [3, 1]), ([3, 1], [4, 3, 2])]:
            check_point_2(self, merged, one, other)
            check_point_2(self, added, one, other)
