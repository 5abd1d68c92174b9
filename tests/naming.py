"""Books to try, and what a book in turn is by the words, without the program."""

import itertools
import random

from tests.helpers import all_orders, apart, grid, grown_order, line

NAMES = [
    "a", "aa", "aaaaaaaa", "ab", "abc", "b", "ba", "juniper", "m", "mallow", "oak", "reed", "zz", "zzzzzzzz",
]
TWISTED = [[], [], [0], [0, 2], [0, 1, 2], [0, 1, 2, 4]]


def mixed_names(many, seed):
    return random.Random(seed).sample(NAMES, many)


def small_books():
    """All orders of at most three things, with names in every order."""
    told = []
    for many in range(4):
        for order, names in itertools.product(all_orders(many), itertools.permutations(["aa", "b", "c"], many)):
            told.append((list(names), order))
    return told


def books_to_try():
    told = small_books() + [(mixed_names(4, seed), order) for seed, order in enumerate(all_orders(4))]
    told += [(mixed_names(5, seed), order) for seed, order in enumerate(all_orders(5)[::10])]
    for seed, order in enumerate([TWISTED, line(14), apart(14), grid(7, 2), grid(2, 7)]):
        told += [(mixed_names(len(order), seed), order), (NAMES[:len(order)], order), (NAMES[:len(order)][::-1], order)]
    for many in range(6, 15):
        told += [(mixed_names(many, seed), grown_order(many, seed, 1 + seed % 4)) for seed in range(5)]
    return told


def named_belows(book):
    """For each name the set of the names below it."""
    names, order = book
    return {name: {names[low] for low in order[at]} for at, name in enumerate(names)}


def is_in_turn(book):
    """Whether each name is the least of those from its place on all of whose things below stand ahead of it."""
    names = book[0]
    belows = named_belows(book)
    for at, name in enumerate(names):
        if name != min(other for other in names[at:] if belows[other] <= set(names[:at])):
            return False
    return True


def check_book(test, book):
    """The kinds of a book's values."""
    test.assertIs(type(book), tuple)
    names, order = book
    test.assertIs(type(names), list)
    test.assertEqual({type(name) for name in names} - {str}, set())
    test.assertIs(type(order), list)
    test.assertEqual(len(names), len(order))
    for at, below in enumerate(order):
        test.assertIs(type(below), list)
        test.assertEqual(below, sorted(set(below)))
        test.assertTrue(set(below) <= set(range(at)))
        for low in below:
            test.assertTrue(set(order[low]) <= set(below))
