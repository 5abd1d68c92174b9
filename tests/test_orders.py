"""Points 4 and 5, and 2 for both: what an order is, and putting a thing on top."""

import copy
import itertools
import unittest

from bandorder.errors import Full, NoThing
from bandorder.orders import is_order, put_on

from tests.helpers import (
    all_orders, apart, check_point_2, check_refusal, grid, grown_order, line, orders_of_fourteen, small_orders,
)

NO_LISTS = [0, 1, -1, 14, 10 ** 59, True, False, None, "", "a", "[]", (), (0,), ([],)]
NO_THINGS = [-1, -3, 3, 4, 10 ** 59, -(10 ** 59), True, False, "0", "", None, [], [0], (), (0,)]


class IsOrder(unittest.TestCase):
    def test_orders(self):
        for order in [[], [[]], [[], []], [[], [0]], [[], [0], [0, 1]], [[], [], [0], [0, 1, 2]]]:
            self.assertIs(is_order(order), True, order)

    def test_orders_of_fourteen_things(self):
        for order in orders_of_fourteen():
            self.assertEqual(len(order), 14)
            self.assertIs(is_order(order), True, order)

    def test_fifteen_places(self):
        for order in [apart(15), line(15), grid(5, 3), grown_order(20, 1, 2), [[]] * 40]:
            self.assertIs(is_order(order), False, order)

    def test_number_not_less_than_its_place(self):
        for order in [[[0]], [[1]], [[], [1]], [[], [0, 1]], [[], [2]], [[], [0], [0, 1, 2]], [[], [10 ** 59], []]]:
            self.assertIs(is_order(order), False, order)

    def test_number_below_nought(self):
        for order in [[[-1]], [[], [-1]], [[], [-1, 0]], [[], [], [-2, 0]], [[], [-(10 ** 59)]]]:
            self.assertIs(is_order(order), False, order)

    def test_number_twice(self):
        for order in [[[], [0, 0]], [[], [], [0, 1, 1]], [[], [], [0, 0, 1]]]:
            self.assertIs(is_order(order), False, order)

    def test_number_out_of_order(self):
        for order in [[[], [], [1, 0]], [[], [], [], [0, 2, 1]], [[], [0], [1, 0]]]:
            self.assertIs(is_order(order), False, order)

    def test_truth_as_a_number(self):
        for order in [[[], [False]], [[], [], [True]], [[], [], [0, True]], [[], [], [False, 1]]]:
            self.assertIs(is_order(order), False, order)

    def test_missing_thing_below(self):
        for order in [[[], [0], [1]], [[], [0], [], [1, 2]], [[], [0], [0, 1], [0, 2]], [[], [0], [0, 1], [2]]]:
            self.assertIs(is_order(order), False, order)

    def test_tuple_in_the_place_of_a_list(self):
        for order in [(), ([],), ([], [0]), [()], [[], ()], [[], (0,)], [[], [0], (0, 1)]]:
            self.assertIs(is_order(order), False, order)

    def test_other_kinds_in_the_place_of_a_list(self):
        for thing in NO_LISTS:
            self.assertIs(is_order(thing), False, thing)
            self.assertIs(is_order([thing]), False, thing)
            self.assertIs(is_order([[], thing]), False, thing)
            self.assertIs(is_order([thing, []]), False, thing)

    def test_other_kinds_in_the_place_of_a_number(self):
        for thing in ["0", "", "a", None, True, False, [], [0], (), (0,), [[]], "zero"]:
            self.assertIs(is_order([[], [thing]]), False, thing)
            self.assertIs(is_order([[], [], [0, thing]]), False, thing)
            self.assertIs(is_order([[], [], [thing, 1]]), False, thing)

    def test_wrong_ones_behind_good_ones(self):
        self.assertIs(is_order(line(13) + [[0, 2]]), False)
        self.assertIs(is_order(line(13) + [None]), False)
        self.assertIs(is_order(line(13) + [[0, 1]]), True)

    def test_deep_and_large_things(self):
        deep = 0
        for turn in range(19):
            deep = [deep]
        self.assertIs(is_order(deep), False)
        self.assertIs(is_order([list(range(400))]), False)
        self.assertIs(is_order([[]] * 499), False)

    def test_against_trying_all_relations(self):
        pairs = [(low, high) for high in range(4) for low in range(high)]
        good = all_orders(4)
        for chosen in itertools.product([False, True], repeat=len(pairs)):
            taken = [pair for pair, is_in in zip(pairs, chosen) if is_in]
            thing = [[low for low in range(high) if (low, high) in taken] for high in range(4)]
            self.assertIs(is_order(thing), thing in good, thing)

    def test_point_2(self):
        for thing in [[[], [0], [0, 1]], [[], [0], [1]], [[], [1, 0]], [[], (0,)], apart(15)]:
            check_point_2(self, is_order, thing)


def put_on_by_words(order, some):
    """Below the new one stand just the given ones and what stands below one of them."""
    below = [low for low in range(len(order)) if low in some or any(low in order[thing] for thing in some)]
    return copy.deepcopy(order) + [below]


class PutOn(unittest.TestCase):
    def test_on_nothing(self):
        self.assertEqual(put_on([], []), [[]])
        self.assertEqual(put_on([[]], []), [[], []])
        self.assertEqual(put_on([[], [0]], []), [[], [0], []])

    def test_on_some(self):
        self.assertEqual(put_on([[]], [0]), [[], [0]])
        self.assertEqual(put_on([[], [], []], [0, 2]), [[], [], [], [0, 2]])

    def test_in_whatever_order_and_several_times(self):
        self.assertEqual(put_on([[], [], []], [2, 0]), [[], [], [], [0, 2]])
        self.assertEqual(put_on([[], [], []], [2, 0, 2, 2, 0]), [[], [], [], [0, 2]])
        self.assertEqual(put_on([[], [0]], [1, 1, 1] * 30), [[], [0], [0, 1]])

    def test_what_stands_below_them(self):
        self.assertEqual(put_on([[], [0]], [1]), [[], [0], [0, 1]])
        self.assertEqual(put_on([[], [0], [0, 1], []], [3, 2]), [[], [0], [0, 1], [], [0, 1, 2, 3]])
        self.assertEqual(put_on([[], [], [0], [1]], [2]), [[], [], [0], [1], [0, 2]])

    def test_of_all_small_orders(self):
        for order in small_orders():
            for some in itertools.product(range(len(order)), repeat=2):
                told = put_on(order, list(some))
                self.assertEqual(told, put_on_by_words(order, some))
                self.assertIs(is_order(told), True)

    def test_the_fourteenth_thing(self):
        self.assertEqual(put_on(line(13), [12]), line(14))
        self.assertEqual(put_on(apart(13), []), apart(14))

    def test_no_thing(self):
        for wrong in NO_THINGS:
            for some in [[wrong], [0, wrong], [wrong, 0], [2, 1, 0, wrong, 1]]:
                check_refusal(self, NoThing, put_on, [[], [0], []], some)

    def test_no_thing_of_no_things(self):
        for wrong in [0, -1, 1, False, None, "a"]:
            check_refusal(self, NoThing, put_on, [], [wrong])

    def test_full(self):
        for order in orders_of_fourteen():
            for some in [[], [0], [13], [13, 0, 13]]:
                check_refusal(self, Full, put_on, order, some)

    def test_no_thing_is_due_ahead_of_full(self):
        for wrong in [14, -1, True, False, "0", None, 10 ** 59]:
            check_refusal(self, NoThing, put_on, line(14), [wrong])
            check_refusal(self, NoThing, put_on, apart(14), [0, wrong])

    def test_point_2(self):
        check_point_2(self, put_on, [], [])
        check_point_2(self, put_on, [[], [0], [], [0, 1]], [])
        check_point_2(self, put_on, [[], [0], [], [0, 1]], [3, 1, 3])
