"""A table of ties whose lengths are the bands of the order."""

from bandorder.bands import bands
from bandorder.ties import lengths

# With numbers left free at the ties, the rank of each power is shown by a minor of it. In the product of these, for the
# powers from 1 to n - 1, no free number is multiplied with itself more than n * (n - 1) // 2 times: 91 times where
# there are fourteen things. So the product is not nought for some numbers from 0 to 91, and with these the lengths are
# the bands. The next prime is 97.
BASE = 97

# The prime does not divide it: the last figures of its multiples, to that base, run through all that there are.
START = 1000003 ** 31


def table_by(order, number):
    """The table whose ties are the figures of a number to the base, from its last one on."""
    table = [[0 for high in order] for low in order]
    for high, below in enumerate(order):
        for low in below:
            table[low][high] = number % BASE
            number //= BASE
    return table


def told_ties(order):
    """A table of ties whose lengths are the bands: the first that fits, most often the first that is tried."""
    wanted = bands(order)
    number = START
    table = table_by(order, number)
    while lengths(table) != wanted:
        number += START
        table = table_by(order, number)
    return table
