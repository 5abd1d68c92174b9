"""Tables to try, and their ranks by fractions, without the program."""

import fractions
import itertools
import random

GREAT = 10 ** 60 - 1


def product_by_the_words(one, other):
    told = []
    for row in one:
        told.append([])
        for column in range(len(other[0])):
            told[-1].append(0)
            for at in range(len(other)):
                told[-1][-1] += row[at] * other[at][column]
    return told


def turned_table(table):
    """The table by columns."""
    return [list(column) for column in zip(*table)]


def rank_by_fractions(table):
    rows = [[fractions.Fraction(number) for number in row] for row in table]
    rank = 0
    for column in range(len(table[0]) if table else 0):
        leading = next((row for row in rows if row[column] != 0), None)
        if leading is not None:
            rows.remove(leading)
            rows = [
                [number - beside * row[column] / leading[column] for number, beside in zip(row, leading)]
                for row in rows
            ]
            rank += 1
    return rank


def unit_by_the_words(many):
    told = [[0] * many for row in range(many)]
    for at in range(many):
        told[at][at] = 1
    return told


def noughts(tall, wide):
    return [[0] * wide for row in range(tall)]


def table_by_chance(tall, wide, seed, most):
    chance = random.Random(seed)
    return [[chance.randint(-most, most) for column in range(wide)] for row in range(tall)]


def table_of_rank(tall, wide, rank, seed, most):
    """A table of at most such a rank: its rows are made of so many."""
    return product_by_the_words(table_by_chance(tall, rank, seed, 3), table_by_chance(rank, wide, seed + 1, most))


def small_tables():
    """All tables of at most two rows and three columns, or three and two, with small numbers."""
    told = [[]]
    for tall, wide in [(1, 1), (1, 2), (2, 1), (1, 3), (3, 1), (2, 2), (2, 3), (3, 2)]:
        for numbers in itertools.product((-1, 0, 2), repeat=tall * wide):
            told.append([list(numbers[at * wide:(at + 1) * wide]) for at in range(tall)])
    return told


def great_tables():
    """Tables up to ten rows and columns, of all ranks, with noughts, numbers below nought and of sixty figures."""
    sizes = [(10, 10), (10, 1), (1, 10), (10, 7), (6, 10), (5, 5), (4, 3), (3, 5)]
    told = [noughts(tall, wide) for tall, wide in sizes]
    told += [unit_by_the_words(many) for many in range(1, 11)]
    for seed, (tall, wide) in enumerate(sizes):
        for most in (1, 2, 9, GREAT):
            told.append(table_by_chance(tall, wide, seed, most))
        for rank in range(1, min(tall, wide) + 1):
            told.append(table_of_rank(tall, wide, rank, 100 + seed, 2))
            told.append(table_of_rank(tall, wide, rank, 200 + seed, GREAT // 1000))
    told.append([[GREAT] * 10 for row in range(10)])
    told.append([[GREAT - row - column for column in range(10)] for row in range(10)])
    told.append([[GREAT, -GREAT], [-GREAT, GREAT], [GREAT, GREAT - 1]])
    told.append([[0, 0, 3], [0, 0, 5], [0, 2, 1], [0, 4, 2]])
    told.append([[0, 1, 0], [0, 0, 1], [0, 0, 0]])
    return told


def tables_to_try():
    return small_tables() + great_tables()
