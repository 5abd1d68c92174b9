"""Bases that a table of ties carries on."""

from bandorder.kernels import to_nought
from bandorder.tables import product, rank_of
from bandorder.ties import powers_of


def carried_on(row, table, many):
    """So many rows: the row, and each next one made by the table."""
    told = [row]
    while len(told) < many:
        told.extend(product([told[-1]], table))
    return told


def is_new_beside(row, rows):
    """Whether a row is not made of some others, none of which is made of the rest."""
    return rank_of(rows + [row]) > len(rows)


def carried(table):
    """Lists of rows, each row but the first made by the table from the one ahead, the longest lists first.

    All rows are free of one another where the last rows of the lists are. A row that the power many brings to
    nought begins a list of so many rows, unless its last row is made of those that stand there; since all such
    rows are tried, the lists come to be as many as the lengths say.
    """
    told = []
    powers = powers_of(table)
    for many in range(len(table), 0, -1):
        for row in to_nought(powers[many]):
            rows = carried_on(row, table, many)
            if is_new_beside(rows[-1], [earlier[-1] for earlier in told]):
                told.append(rows)
    return told
