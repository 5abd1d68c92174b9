"""Point 3, over the whole program: from a text to an order, and all that is promised of it."""

import unittest

from bandorder.bands import bands, steps
from bandorder.bases import carried
from bandorder.books import in_turn
from bandorder.bumping import bumped
from bandorder.desk import Desk
from bandorder.growth import growth, stairs
from bandorder.orders import is_order
from bandorder.pairs import by_chains, by_crowds, fewest_chains
from bandorder.papers import lets_by
from bandorder.parts import part_of
from bandorder.rows import order_of
from bandorder.shapes import box_at, by_columns, is_beneath, is_shape
from bandorder.texts import read_book, show_book, show_pair
from bandorder.ties import is_ties, lengths
from bandorder.told import told_ties

from tests.counting import counted_bands, counted_steps
from tests.helpers import all_rows_of, longer_rows
from tests.naming import books_to_try
from tests.reckoning import product_by_the_words, rank_by_fractions
from tests.tying import drawn_ties, great_ties, lengths_by_the_words

TEXTS = [
    "",
    "oak",
    "oak\nelm",
    "oak < elm < ash",
    "a < b < d\na < c < d",
    "a < c < d\nc < e < f\nb < e",
    "p < q\nr < q\nr < s\nt < s\nt < u",
    "x\ny < z\nw < z\nw < v < u\ny < u",
    "a < e\na < f\nb < e\nb < f\nc < g\nd < h\nc < h",
    "a < b < c < d < e < f < g\nh < i < j < k < l < m < n\na < i\nb < k\nh < d",
]


def texts_to_try():
    return TEXTS + [show_book(book) for book in books_to_try()[::3]]


def orders_to_try():
    return [read_book(text)[1] for text in texts_to_try()]


def small_ones(orders):
    """Those for which tables of ties are told."""
    return [order for order in orders if len(order) <= 8]


class Whole(unittest.TestCase):
    def test_the_text_and_the_book(self):
        for text in texts_to_try():
            book = read_book(text)
            self.assertIs(is_order(book[1]), True)
            self.assertEqual(in_turn(book), book)
            self.assertEqual(read_book(show_book(book)), book)

    def test_bands_and_steps(self):
        for order in orders_to_try():
            rows, columns = bands(order), steps(order)
            self.assertIs(is_shape(rows), True)
            self.assertIs(is_shape(columns), True)
            self.assertEqual((sum(rows), sum(columns)), (len(order), len(order)))
            self.assertEqual(by_columns(rows), columns)
            self.assertEqual(by_columns(columns), rows)
            if len(order) <= 6:
                self.assertEqual((rows, columns), (counted_bands(order), counted_steps(order)))

    def test_a_pair_for_each_number_of_chains(self):
        for order in orders_to_try():
            rows = bands(order)
            for many in range(len(fewest_chains(order)) + 1):
                chains, crowds = by_chains(order, many)
                self.assertEqual(len(chains), many)
                self.assertIs(lets_by(order, chains, crowds), True)
                self.assertEqual(sum(len(chain) for chain in chains), sum(rows[:many]))
                self.assertEqual(sum(len(crowd) for crowd in crowds), sum(steps(order)[:len(crowds)]))

    def test_a_pair_for_each_number_of_crowds(self):
        for order in orders_to_try():
            columns = steps(order)
            for many in range(len(columns) + 1):
                chains, crowds = by_crowds(order, many)
                self.assertEqual(len(crowds), many)
                self.assertIs(lets_by(order, chains[::-1], crowds[::-1]), True)
                self.assertEqual(sum(len(crowd) for crowd in crowds), sum(columns[:many]))
                self.assertEqual(sum(len(chain) for chain in chains), sum(bands(order)[:len(chains)]))

    def test_one_box_for_each_thing(self):
        for order in orders_to_try():
            shapes = growth(order)
            self.assertEqual(shapes, [bands(part_of(order, list(range(many)))) for many in range(len(order) + 1)])
            rows = stairs(order)
            for thing in range(len(order)):
                self.assertIn(thing, rows[box_at(shapes[thing], shapes[thing + 1])])

    def test_the_boxes_of_a_row_stand_as_bumping_writes_them(self):
        for row in all_rows_of(4) + longer_rows()[::3]:
            first, second = bumped(row)
            self.assertEqual(second, stairs(order_of(row)))
            self.assertEqual([len(numbers) for numbers in first], bands(order_of(row)))

    def test_whatever_table_of_ties_is_made(self):
        for seed, order in enumerate(small_ones(orders_to_try())):
            for table in [drawn_ties(order, seed, [0, 1, -1, 2]), great_ties(order, seed)]:
                self.assertIs(is_ties(order, table), True)
                self.assertIs(is_beneath(lengths(table), bands(order)), True)
                self.assertEqual([len(rows) for rows in carried(table)], lengths(table))

    def test_a_table_of_ties_is_told_with_its_base(self):
        for order in small_ones(orders_to_try()):
            table = told_ties(order)
            self.assertIs(is_ties(order, table), True)
            self.assertEqual(lengths(table), bands(order))
            self.assertEqual(lengths_by_the_words(table), bands(order))
            base = carried(table)
            self.assertEqual([len(rows) for rows in base], bands(order))
            self.assertEqual(rank_by_fractions(sum(base, [])), len(order))
            for rows in base:
                for row, follower in zip(rows, rows[1:] + [[0] * len(order)]):
                    self.assertEqual(product_by_the_words([row], table), [follower])

    def test_the_desk_says_the_same(self):
        for text in texts_to_try():
            names, order = read_book(text)
            desk = Desk()
            for name in names[::-1]:
                desk.say(f"add {name}")
            for high, below in enumerate(order):
                for low in below:
                    desk.say(f"tie {names[low]} {names[high]}")
            self.assertEqual(read_book(desk.say("show")), (names, order))
            self.assertEqual(desk.say("bands").split(), [str(number) for number in bands(order)])
            for many in range(len(bands(order)) + 1):
                self.assertEqual(desk.say("judge " + show_pair(names, by_chains(order, many))), "yes")
