"""Tables of ties: nought but where one thing stands below another, and their lengths."""

from bandorder.shapes import by_columns
from bandorder.tables import product, rank_of, unit_table


def is_ties(order, table):
    """Whether a table, with a row and a column for each thing, is nought where the one does not stand below."""
    return all([
        number == 0 or low in order[high]
        for low, row in enumerate(table)
        for high, number in enumerate(row)
    ])


def powers_of(table):
    """The powers 0, 1, 2 and so on of a table, up to as many as it has rows."""
    told = [unit_table(len(table))]
    for turn in range(len(table)):
        told.append(product(told[-1], table))
    return told


def lengths(table):
    """The shape that has so many numbers of l or more as the rank falls from the power l - 1 to the power l."""
    ranks = [rank_of(raised) for raised in powers_of(table)]
    return by_columns([ranks[at] - ranks[at + 1] for at in range(len(table))])
