"""Point 15, and 2 and 3 for it: which pairs are let by, whoever wrote them."""

import itertools
import random
import unittest

from bandorder.bands import bands, steps
from bandorder.pairs import by_chains, by_crowds
from bandorder.papers import lets_by

from tests.helpers import all_orders, apart, check_point_2, grid, grown_order, line, orders_of_fourteen, small_orders

NO_THINGS_NUMBERS = [-1, -2, -14, 10 ** 59, 10 ** 60 - 1, -(10 ** 60 - 1)]


def is_right_row(order, row, is_tied):
    if not row or row != sorted(set(row)) or not set(row) <= set(range(len(order))):
        return False
    return all((low in order[high]) == is_tied for low, high in itertools.combinations(row, 2))


def are_right_rows(order, rows, is_tied):
    apart_from_another = all(not set(one) & set(other) for one, other in itertools.combinations(rows, 2))
    return apart_from_another and all(is_right_row(order, row, is_tied) for row in rows)


def is_pair(order, chains, crowds):
    """By the words of 7 and 12, without the program's own judging."""
    if not are_right_rows(order, chains, True) or not are_right_rows(order, crowds, False):
        return False
    held = {thing for row in chains + crowds for thing in row}
    return held == set(range(len(order))) and all(set(chain) & set(crowd) for chain in chains for crowd in crowds)


def some_orders():
    told = small_orders() + all_orders(5)[::9]
    return told + [grown_order(many, seed, 1 + seed % 4) for many in range(6, 14) for seed in range(3)]


def told_pairs(order):
    told = [by_chains(order, many) for many in range(len(bands(order)) + 1)]
    return told + [by_crowds(order, many) for many in range(len(steps(order)) + 1)]


def orders_with_pairs(orders):
    return [(order, pair) for order in orders for pair in told_pairs(order)]


def with_row(rows, at, *news):
    """The rows with some new ones in the stead of the one at a place."""
    return rows[:at] + list(news) + rows[at + 1:]


def each_side_changed(pair, changes):
    """All pairs in which the one list or the other is changed, by a function that tells all changed lists."""
    chains, crowds = pair
    return [(rows, crowds) for rows in changes(chains)] + [(chains, rows) for rows in changes(crowds)]


def with_a_thing_less(rows):
    return [
        with_row(rows, at, [thing for thing in row if thing != gone])
        for at, row in enumerate(rows) for gone in row
    ]


def with_a_row_twice(rows):
    return [rows[:at] + [list(row)] + rows[at:] for row in rows for at in (0, len(rows))]


def with_an_empty_row(rows):
    return [rows[:at] + [[]] + rows[at:] for at in range(len(rows) + 1)]


def with_a_row_that_falls(rows):
    return [with_row(rows, at, row[::-1]) for at, row in enumerate(rows) if len(row) > 1]


def with_a_thing_twice(rows):
    return [with_row(rows, at, sorted(row + [thing])) for at, row in enumerate(rows) for thing in row]


def with_a_row_less(rows):
    return [with_row(rows, at) for at in range(len(rows))]


def with_a_row_in_two(rows):
    return [
        with_row(rows, at, [thing for thing in row if thing in part], [thing for thing in row if thing not in part])
        for at, row in enumerate(rows) for size in range(1, len(row)) for part in itertools.combinations(row, size)
    ]


def with_a_thing_more(things, rows):
    return [
        with_row(rows, at, sorted(row + [thing]))
        for at, row in enumerate(rows) for thing in things if thing not in row
    ]


def with_a_thing_moved(pair):
    """All pairs in which one thing has gone from one list of the pair to another one, of chains or crowds."""
    both = pair[0] + pair[1]
    told = []
    for old, new in itertools.permutations(range(len(both)), 2):
        for thing in both[old]:
            if thing not in both[new]:
                moved = with_row(both, old, [other for other in both[old] if other != thing])
                moved = with_row(moved, new, sorted(moved[new] + [thing]))
                told.append((moved[:len(pair[0])], moved[len(pair[0]):]))
    return told


def all_rows(things):
    """All ways to put some of the things, or none, into lists, each into one at most."""
    if not things:
        return [[]]
    told = []
    for rows in all_rows(things[:-1]):
        told.append(rows)
        told.append(rows + [[things[-1]]])
        told.extend(with_row(rows, at, row + [things[-1]]) for at, row in enumerate(rows))
    return told


class LetsBy(unittest.TestCase):
    def assert_let_by(self, order, pair):
        self.assertIs(lets_by(order, *pair), True, (order, pair))

    def assert_not_let_by(self, order, pair):
        self.assertIs(lets_by(order, *pair), False, (order, pair))

    def assert_judged(self, order, pair):
        self.assertIs(lets_by(order, *pair), is_pair(order, *pair), (order, pair))

    def test_of_no_things(self):
        self.assert_let_by([], ([], []))
        for rows in [[[]], [[0]], [[-1]], [[], []]]:
            self.assert_not_let_by([], (rows, []))
            self.assert_not_let_by([], ([], rows))
            self.assert_not_let_by([], (rows, rows))

    def test_of_one_thing(self):
        self.assert_let_by([[]], ([[0]], []))
        self.assert_let_by([[]], ([], [[0]]))
        self.assert_let_by([[]], ([[0]], [[0]]))
        self.assert_not_let_by([[]], ([], []))

    def test_ordinary(self):
        order = [[], [0], [0], [0, 1, 2]]
        self.assert_let_by(order, ([[0, 1, 3]], [[0], [1, 2], [3]]))
        self.assert_let_by(order, ([[0, 2, 3]], [[3], [0], [1, 2]]))
        self.assert_let_by(order, ([[2], [0, 1, 3]], [[1, 2]]))
        self.assert_let_by(order, ([], [[0], [1], [2], [3]]))
        self.assert_not_let_by(order, ([[0, 1, 3]], [[0], [1], [2], [3]]))
        self.assert_not_let_by(order, ([[0, 1, 3]], [[0], [3]]))
        self.assert_not_let_by(order, ([[0, 1, 2, 3]], [[0], [1, 2], [3]]))
        self.assert_not_let_by(order, ([[0, 1, 3]], [[0, 3], [1, 2]]))
        self.assert_not_let_by(order, ([[0, 1], [1, 3]], [[1, 2]]))
        self.assert_not_let_by(order, ([[0, 1, 3]], [[1, 2], [2]]))
        self.assert_not_let_by(order, ([[0, 1, 3], [2]], [[1, 2], [0]]))

    def test_told_pairs_in_whatever_order(self):
        chance = random.Random(15)
        for order, (chains, crowds) in orders_with_pairs(some_orders() + orders_of_fourteen()):
            self.assert_let_by(order, (chains, crowds))
            self.assert_let_by(order, (chains[::-1], crowds))
            self.assert_let_by(order, (chains, crowds[::-1]))
            self.assert_let_by(order, (chance.sample(chains, len(chains)), chance.sample(crowds, len(crowds))))

    def test_never_let_by(self):
        kinds = [
            with_a_thing_less, with_a_row_twice, with_an_empty_row, with_a_row_that_falls, with_a_thing_twice,
        ]
        for order, pair in orders_with_pairs(some_orders() + orders_of_fourteen()):
            for changes in kinds:
                for changed in each_side_changed(pair, changes):
                    self.assert_not_let_by(order, changed)
            for changed in each_side_changed(pair, lambda rows: with_a_thing_more(range(len(order)), rows)):
                self.assert_not_let_by(order, changed)

    def test_numbers_of_no_thing(self):
        for order, pair in orders_with_pairs(some_orders() + orders_of_fourteen()):
            for number in [len(order), len(order) + 1] + NO_THINGS_NUMBERS:
                for changed in each_side_changed(pair, lambda rows: with_a_thing_more([number], rows)):
                    self.assert_not_let_by(order, changed)
                for changed in each_side_changed(pair, lambda rows: [rows + [[number]]]):
                    self.assert_not_let_by(order, changed)

    def test_a_row_parted_or_left_out(self):
        for order, pair in orders_with_pairs(some_orders()):
            for changed in each_side_changed(pair, with_a_row_in_two) + each_side_changed(pair, with_a_row_less):
                self.assert_judged(order, changed)
            if all(pair):
                # What is parted meets each of the others in one thing only, so one part meets none.
                for changed in each_side_changed(pair, with_a_row_in_two):
                    self.assert_not_let_by(order, changed)

    def test_a_thing_in_another_row(self):
        for order, pair in orders_with_pairs(some_orders()):
            for changed in with_a_thing_moved(pair):
                self.assert_judged(order, changed)
                if sum(map(len, changed[0])) != sum(map(len, pair[0])):
                    # It went from a chain to a crowd, or back.
                    self.assert_not_let_by(order, changed)

    def test_exchanged(self):
        for order, (chains, crowds) in orders_with_pairs(some_orders() + orders_of_fourteen()):
            self.assert_judged(order, (crowds, chains))
            if any(len(row) > 1 for row in chains + crowds):
                self.assert_not_let_by(order, (crowds, chains))

    def test_each_reason_alone(self):
        """Pairs that lack just one of what 12 asks for."""
        two_lines = [[], [], [0], [1]]
        self.assert_let_by(two_lines, ([[0, 2], [1, 3]], [[0, 1], [2, 3]]))
        for chains, crowds in [
            ([[0, 2], [1, 3]], [[0, 1]]), ([[0, 2], [1, 3]], []), ([], [[0, 3], [1, 2]]),
        ]:
            self.assert_let_by(two_lines, (chains, crowds))
        for chains, crowds in [
            ([[0, 2], [1, 3], [0, 2]], []),
            ([], [[0, 1], [2, 3], [1, 2]]),
            ([[0, 2], [1]], []),
            ([], [[0, 1], [2]]),
            ([[0, 2]], [[0, 1]]),
            ([[0, 2], [1, 3]], [[0, 1], [2]]),
            ([[0, 2], [1, 3]], [[0]]),
            ([[0, 1], [2, 3]], []),
            ([], [[0, 2], [1, 3]]),
            ([[0, 2, 4], [1, 3]], []),
            ([[-1, 0, 2], [1, 3]], []),
        ]:
            self.assert_not_let_by(two_lines, (chains, crowds))

    def test_all_rows_of_few_things(self):
        for order in [order for many in range(4) for order in all_orders(many)]:
            families = all_rows(list(range(len(order))))
            for chains, crowds in itertools.product(families, families):
                self.assert_judged(order, (chains, crowds))

    def test_whoever_made_it_holds_what_the_bands_and_steps_say(self):
        for order in small_orders():
            rows, columns = bands(order), steps(order)
            families = all_rows(list(range(len(order))))
            chain_families = [some for some in families if are_right_rows(order, some, True)]
            crowd_families = [some for some in families if are_right_rows(order, some, False)]
            for chains, crowds in itertools.product(chain_families, crowd_families):
                if lets_by(order, chains, crowds):
                    self.assertEqual(sum(map(len, chains)), sum(rows[:len(chains)]), (order, chains, crowds))
                    self.assertEqual(sum(map(len, crowds)), sum(columns[:len(crowds)]), (order, chains, crowds))

    def test_rows_by_chance(self):
        chance = random.Random(12)
        for order in small_orders() + [grown_order(5, seed, 2) for seed in range(20)]:
            for turn in range(40):
                pair = tuple(
                    [[chance.randint(-1, len(order)) for at in range(chance.choice([0, 1, 1, 2, 2, 3]))]
                     for row in range(chance.randint(0, 3))]
                    for side in range(2)
                )
                self.assert_judged(order, pair)

    def test_point_2(self):
        for order in [[], [[]], apart(3), line(4), grid(7, 2)]:
            for chains, crowds in told_pairs(order):
                check_point_2(self, lets_by, order, chains, crowds)
                check_point_2(self, lets_by, order, crowds[::-1], chains[::-1])
