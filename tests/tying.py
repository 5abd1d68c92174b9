"""Tables of ties to try, and their lengths by the words, without the program."""

import random

from tests.helpers import all_orders, apart, grid, grown_order, line
from tests.reckoning import GREAT, product_by_the_words, rank_by_fractions, unit_by_the_words

TWISTED = [[], [], [0], [0, 2], [0, 1, 2], [0, 1, 2, 4]]


def ties_from(order, numbers):
    """The table that has at each tie the next one of the numbers, which come back from the first one on."""
    table = [[0] * len(order) for thing in order]
    places = [(low, high) for high, below in enumerate(order) for low in below]
    for at, (low, high) in enumerate(places):
        table[low][high] = numbers[at % len(numbers)]
    return table


def drawn_ties(order, seed, numbers):
    """A table of ties with numbers drawn from some; the same one for the same seed."""
    chance = random.Random(seed)
    return ties_from(order, [chance.choice(numbers) for tie in range(28)])


def great_ties(order, seed):
    chance = random.Random(seed)
    return ties_from(order, [chance.randint(-GREAT, GREAT) for tie in range(28)])


def orders_up_to_eight():
    told = [TWISTED, line(8), apart(8), grid(4, 2), grid(2, 4), grid(2, 3), line(5), apart(6)]
    told += [line(3) + [[3 + low for low in range(high)] for high in range(5)]]
    return told + [grown_order(many, seed, 1 + seed % 4) for many in range(5, 9) for seed in range(12)]


def orders_with_ties():
    return [order for many in range(4) for order in all_orders(many)] + all_orders(4)[::3] + orders_up_to_eight()


def tuples_to_try():
    """Tuples (order, table of ties): of noughts, ones, small numbers, many noughts, below nought, of sixty figures."""
    told = []
    for seed, order in enumerate(orders_with_ties()):
        told.append((order, ties_from(order, [0])))
        told.append((order, ties_from(order, [1])))
        told.append((order, drawn_ties(order, seed, [0, 1])))
        told.append((order, drawn_ties(order, seed + 1, [0, 0, 0, 1, -1])))
        told.append((order, drawn_ties(order, seed + 2, [-3, -2, -1, 1, 2, 3])))
        told.append((order, drawn_ties(order, seed + 3, [0, GREAT, -GREAT, 1])))
        told.append((order, great_ties(order, seed)))
    return told


def lengths_by_the_words(table):
    """By fractions: the ranks of the powers, and how many of the lengths are 1, 2 and so on or more."""
    raised = unit_by_the_words(len(table))
    lengths = []
    for long in range(1, len(table) + 1):
        ahead, raised = raised, product_by_the_words(raised, table)
        many = rank_by_fractions(ahead) - rank_by_fractions(raised)
        lengths = [long if at < many else lengths[at] for at in range(max(many, len(lengths)))]
    return lengths
