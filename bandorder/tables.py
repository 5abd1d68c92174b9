"""Tables of whole numbers: products, powers and ranks."""


def many_columns(table):
    return len(table[0]) if len(table) > 0 else 0


def columns_of(table):
    return [[row[at] for row in table] for at in range(many_columns(table))]


def product(one, other):
    """The product of two tables, the first one's rows as long as the second one has rows."""
    columns = columns_of(other)
    return [[sum([number * beside for number, beside in zip(row, column)]) for column in columns] for row in one]


def unit_table(many):
    """The table with so many rows and columns that has 1 from corner to corner, nought else."""
    return [[1 if at == place else 0 for at in range(many)] for place in range(many)]


def power(table, k):
    """The table, with as many rows as columns, k times with itself."""
    told = unit_table(len(table))
    for turn in range(k):
        told = product(told, table)
    return told


def first_not_nought(rows, done, column):
    """The place, from done on, of the first row that is not nought in the column; None where there is none."""
    for at in range(done, len(rows)):
        if rows[at][column] != 0:
            return at
    return None


def cleared(row, leading, column, divisor):
    """The row, made nought in the column by the leading row, without fractions."""
    return [
        (number * leading[column] - beside * row[column]) // divisor
        for number, beside in zip(row, leading)
    ]


def eliminated(table, many):
    """A tuple (rank, rows) of the table's first columns, so many, and of its rows, combined anew.

    The rows from place rank on are nought in these columns. Each number is, but for its sign, a determinant of
    numbers of the table; so it is divided by the leading number of the turn ahead without rest, and stays short.
    """
    rows = list(table)
    rank = 0
    divisor = 1
    for column in range(many):
        at = first_not_nought(rows, rank, column)
        if at is not None:
            rows[rank], rows[at] = rows[at], rows[rank]
            leading = rows[rank]
            rank += 1
            rows = rows[:rank] + [cleared(row, leading, column, divisor) for row in rows[rank:]]
            divisor = leading[column]
    return rank, rows


def rank_of(table):
    """How many of the table's rows there can be at most, none of which is made of the others."""
    rank, rows = eliminated(table, many_columns(table))
    return rank
