"""Rows of unlike numbers: their order, their places, and two kinds of exchanges."""

from bandorder.errors import NoSwap


def order_of(row):
    """The order in which a thing stands below a later one that has a greater number."""
    return [[low for low in range(high) if row[low] < row[high]] for high in range(len(row))]


def is_between(number, one, other):
    return min(one, other) < number < max(one, other)


def exchanged(row, i):
    """The row with the numbers at places i and i + 1 exchanged, where one right beside them lies between."""
    if not 0 <= i < len(row) - 1:
        raise NoSwap("there are no two such places")
    beside = row[max(i - 1, 0):i] + row[i + 2:i + 3]
    if not any([is_between(number, row[i], row[i + 1]) for number in beside]):
        raise NoSwap("no number beside the two lies between them")
    return row[:i] + [row[i + 1], row[i]] + row[i + 2:]


def places_of(row):
    """At place k the place of the number k, counted from 0 by rising size."""
    return [row.index(number) for number in sorted(row)]


def swapped(row, k):
    """The row in which the numbers k and k + 1, counted by size, have changed places.

    They may where their places may be exchanged in the row of places.
    """
    told = list(row)
    for number, place in zip(sorted(row), exchanged(places_of(row), k)):
        told[place] = number
    return told
