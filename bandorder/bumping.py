"""Bumping a row of numbers into two lists of lists, and bringing it back."""

from bandorder.errors import NoTables
from bandorder.orders import is_rising
from bandorder.shapes import is_shape


def many_less(row, number):
    """How many numbers of a row are less; in a rising row this is the place of the least greater one."""
    return len([other for other in row if other < number])


def bump(rows, number):
    """Bring a number into the rows, which are changed; told is the place of the row that grew."""
    for at in range(len(rows)):
        row = rows[at]
        place = many_less(row, number)
        if place == len(row):
            row.append(number)
            return at
        row[place], number = number, row[place]
    rows.append([number])
    return len(rows) - 1


def bumped(row):
    """The two lists: of the numbers, and of the places by which their rows grew."""
    first = []
    second = []
    for place, number in enumerate(row):
        at = bump(first, number)
        if at == len(second):
            second.append([])
        second[at].append(place)
    return first, second


def lengths_of(rows):
    return [len(row) for row in rows]


def numbers_in(rows):
    return [number for row in rows for number in row]


def is_greater_throughout(ahead, row):
    """Whether each number of a row is greater than the one at the same place of the row ahead."""
    return all([low < high for low, high in zip(ahead, row)])


def is_grid(rows):
    """Whether the lists are as long as a shape says, each rises, and so does each column."""
    if not is_shape(lengths_of(rows)) or not all([is_rising(row) for row in rows]):
        return False
    return all([is_greater_throughout(rows[at], rows[at + 1]) for at in range(len(rows) - 1)])


def are_bumped(first, second):
    """Whether some row is bumped into the two lists; there is one for each two that are so formed."""
    if not is_grid(first) or not is_grid(second) or lengths_of(first) != lengths_of(second):
        return False
    numbers = numbers_in(first)
    return len(set(numbers)) == len(numbers) and sorted(numbers_in(second)) == list(range(len(numbers)))


def row_with(rows, number):
    """The place of the row that has the number."""
    return [at for at, row in enumerate(rows) if number in row][0]


def take_back(rows, at):
    """Shorten the row at a place by its last number, which goes back up; told is what leaves the first row.

    In each row ahead a number takes the place of the greatest lesser one, the one that it was bumped by.
    """
    number = rows[at].pop()
    for above in range(at - 1, -1, -1):
        row = rows[above]
        place = many_less(row, number) - 1
        row[place], number = number, row[place]
    return number


def unbumped(first, second):
    """The row that is bumped into the two lists."""
    if not are_bumped(first, second):
        raise NoTables("no row is bumped into the two lists")
    rows = [list(row) for row in first]
    told = []
    for place in reversed(range(len(numbers_in(second)))):
        told.append(take_back(rows, row_with(second, place)))
    return told[::-1]
