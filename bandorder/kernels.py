"""Rows that bring a table to nought."""

from bandorder.tables import eliminated, many_columns, unit_table


def to_nought(table):
    """As many rows as the table has rows more than its rank, none made of the others, each times the table nought.

    Beside each row of the table stands a row that says of which rows it is made, at first of itself alone; where
    the one has come to nought, the other is told.
    """
    many = many_columns(table)
    beside = [row + unit for row, unit in zip(table, unit_table(len(table)))]
    rank, rows = eliminated(beside, many)
    return [row[many:] for row in rows[rank:]]
