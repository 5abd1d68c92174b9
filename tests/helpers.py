"""What several tests need: many orders, and the checks of point 2."""

import copy
import itertools
import random


def is_closed(order, below):
    return all(low in below for thing in below for low in order[thing])


def all_orders(many):
    """Every order of so many things, each once, by trying all sets of things below each one."""
    if many == 0:
        return [[]]
    told = []
    for order in all_orders(many - 1):
        for size in range(many):
            for below in itertools.combinations(range(many - 1), size):
                if is_closed(order, below):
                    told.append(copy.deepcopy(order) + [list(below)])
    return told


def small_orders():
    return [order for many in range(5) for order in all_orders(many)]


def grown_order(many, seed, most):
    """An order of so many things, each on top of at most so many others; the same one for the same seed."""
    chance = random.Random(seed)
    order = []
    for thing in range(many):
        below = set()
        for low in chance.sample(range(thing), min(thing, chance.randint(0, most))):
            below.update([low], order[low])
        order.append(sorted(below))
    return order


def line(many):
    return [list(range(thing)) for thing in range(many)]


def apart(many):
    return [[] for thing in range(many)]


def grid(wide, tall):
    """The things are the places of a grid, row by row; below one stands what is left of it or under it."""
    spots = [(row, column) for row in range(tall) for column in range(wide)]
    return [
        [at for at, low in enumerate(spots[:place]) if low[0] <= high[0] and low[1] <= high[1]]
        for place, high in enumerate(spots)
    ]


def orders_of_fourteen():
    told = [line(14), apart(14), grid(7, 2), grid(2, 7)]
    return told + [grown_order(14, seed, 1 + seed % 4) for seed in range(12)]


def all_rows_of(many):
    """All rows of the numbers from 0 on, so many."""
    return [list(row) for row in itertools.permutations(range(many))]


def mixed_row(many, seed, most):
    """A row of so many unlike numbers, none farther from nought than most; the same one for the same seed."""
    chance = random.Random(seed)
    row = []
    while len(row) < many:
        number = chance.randint(-most, most)
        if number not in row:
            row.append(number)
    return row


def longer_rows():
    """Rows of six to fourteen numbers: rising, falling and mixed, with numbers below nought and of sixty figures."""
    told = [list(range(14)), list(range(14))[::-1], list(range(-7, 7)), [10 ** 60 - 1 - at for at in range(14)]]
    told += [[-(10 ** 60 - 1) + at * at for at in range(14)], [1, 0, 3, 2, 5, 4, 7, 6, 9, 8, 11, 10, 13, 12]]
    told += [mixed_row(many, seed, 20) for many in range(6, 15) for seed in range(6)]
    return told + [mixed_row(many, seed, 10 ** 60 - 1) for many in range(6, 15) for seed in range(6)]


def rows_to_try():
    """All small rows, and longer ones."""
    told = [row for many in range(6) for row in all_rows_of(many)]
    return told + [[-5], [10 ** 60 - 1], [-(10 ** 60 - 1), 10 ** 60 - 1], [3, -3], [5, -1, 2]] + longer_rows()


def shapes_of(many, most=None):
    """All shapes of so many boxes, none of whose numbers is above most."""
    if many == 0:
        return [[]]
    top = many if most is None else min(many, most)
    return [[first] + rest for first in range(top, 0, -1) for rest in shapes_of(many - first, first)]


def small_shapes(most):
    """All shapes of at most so many boxes."""
    return [shape for many in range(most + 1) for shape in shapes_of(many)]


def lists_in(thing):
    """All lists within something made of lists and tuples, itself counted."""
    told = [thing] if isinstance(thing, list) else []
    if isinstance(thing, (list, tuple)):
        for inner in thing:
            told.extend(lists_in(inner))
    return told


def spoil(thing):
    """Change every list within something."""
    for inner in lists_in(thing):
        inner.insert(0, "spoilt")


def check_point_2(test, function, *handed):
    """What is handed in and what is told have nothing to do with one another, nor have two answers."""
    before = handed
    handed = copy.deepcopy(before)
    told = function(*handed)
    test.assertEqual(handed, before)
    test.assertEqual(repr(handed), repr(before))
    lists = lists_in(told)
    test.assertEqual(len({id(inner) for inner in lists}), len(lists), "a list is told in two places")
    first = copy.deepcopy(told)
    spoil(told)
    test.assertEqual(handed, before)
    again = function(*handed)
    test.assertEqual(again, first)
    spoil(handed)
    test.assertEqual(again, first)
    test.assertEqual(function(*copy.deepcopy(before)), first)


def check_refusal(test, error, function, *handed):
    """Refused with just this error, and nothing that was handed in is changed."""
    before = repr(handed)
    with test.assertRaises(error) as caught:
        function(*handed)
    test.assertIs(type(caught.exception), error)
    test.assertEqual(repr(handed), before)
