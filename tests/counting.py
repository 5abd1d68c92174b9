"""Bands and steps by counting: going through all sets of things, for small orders only."""

import itertools


def many_bits(chosen):
    return bin(chosen).count("1")


def good_rows(order, is_good):
    """As sets of bits, all sets of one or more things of which each two are as is_good says."""
    told = []
    for chosen in range(1, 2 ** len(order)):
        things = [thing for thing in range(len(order)) if chosen >> thing & 1]
        if all(is_good(order, low, high) for low, high in itertools.combinations(things, 2)):
            told.append(chosen)
    return told


def most_held(order, is_good):
    """The most that 0, 1, 2 and so on of the rows hold, up to all things, by going through all sets of things."""
    rows = good_rows(order, is_good)
    held = {0}
    told = [0]
    while told[-1] < len(order):
        held = {chosen | row for chosen in held for row in rows}
        told.append(max(many_bits(chosen) for chosen in held))
    return told


def growths(held):
    return [more - less for less, more in zip(held, held[1:])]


def counted_bands(order):
    return growths(most_held(order, lambda order, low, high: low in order[high]))


def counted_steps(order):
    return growths(most_held(order, lambda order, low, high: low not in order[high]))
