"""Orders: a list with, at place j, the rising list of all things that stand below thing j."""

from bandorder.errors import Full, NoThing

MOST_THINGS = 14


def is_whole(number):
    """Whether it is a whole number; Python counts truths among its integers, so they are asked for."""
    return isinstance(number, int) and not isinstance(number, bool)


def are_things(row, many):
    """Whether all of a list are numbers of things, where there are so many things."""
    return all([is_whole(number) and 0 <= number < many for number in row])


def is_rising(row):
    """Whether each number of a list is less than the next one."""
    return all([row[at] < row[at + 1] for at in range(len(row) - 1)])


def holds_all_below(order, row):
    """Whether all that stand below a thing of the row are in the row, too."""
    return all([low in row for thing in row for low in order[thing]])


def is_order(thing):
    """Whether it is an order, of whatever is made of numbers, truths, None, texts, lists and tuples."""
    if not isinstance(thing, list) or len(thing) > MOST_THINGS:
        return False
    for place, row in enumerate(thing):
        # The rows ahead have been found good, so the numbers of this one may be looked up among them.
        if not isinstance(row, list) or not are_things(row, place):
            return False
        if not is_rising(row) or not holds_all_below(thing, row):
            return False
    return True


def refuse_no_things(order, some):
    """Refuse a list that holds anything but numbers of the order's things."""
    if not are_things(some, len(order)):
        raise NoThing("one of the list is no thing's number")


def with_all_below(order, some):
    """The rising list of some things and of all that stand below them."""
    return sorted({low for thing in some for low in [thing] + order[thing]})


def put_on(order, some):
    """The order with a new last thing on top of some things."""
    refuse_no_things(order, some)
    if len(order) >= MOST_THINGS:
        raise Full("there are fourteen things")
    told = [list(below) for below in order]
    told.append(with_all_below(order, some))
    return told
