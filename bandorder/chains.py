"""Chains, crowds, and the levels of an order."""

from bandorder.orders import are_things, is_rising


def is_rising_row(order, row):
    """Whether it is a rising list of one or more of the order's things."""
    return len(row) > 0 and are_things(row, len(order)) and is_rising(row)


def is_chain(order, row):
    """Whether it is a rising list of things, of each two of which one stands below the other."""
    if not is_rising_row(order, row):
        return False
    return all([low in order[high] for at, high in enumerate(row) for low in row[:at]])


def is_crowd(order, row):
    """Whether it is a rising list of things, none of which stands below another."""
    if not is_rising_row(order, row):
        return False
    return not any([low in order[high] for at, high in enumerate(row) for low in row[:at]])


def heights(order):
    """For each thing the most things that a chain with it on top has."""
    told = []
    for below in order:
        told.append(1 + max([told[low] for low in below], default=0))
    return told


def levels(order):
    """The crowds of the things of height 1, of height 2 and so on."""
    tall = heights(order)
    return [
        [thing for thing, height in enumerate(tall) if height == level]
        for level in range(1, max(tall, default=0) + 1)
    ]


def longest(order):
    """A chain of as many things as can be, built from its top down; of no things the empty list."""
    tall = heights(order)
    chain = []
    under = list(range(len(order)))
    for height in range(max(tall, default=0), 0, -1):
        fitting = [thing for thing in under if tall[thing] == height]
        chain.append(fitting[0])
        under = order[fitting[0]]
    return chain[::-1]
