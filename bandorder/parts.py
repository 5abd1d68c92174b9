"""An order seen from above, by its covers, turned over, and in parts."""

from bandorder.orders import refuse_no_things


def aboves(order):
    """For each thing the rising list of those that stand above it."""
    return [[high for high, below in enumerate(order) if low in below] for low in range(len(order))]


def has_none_between(order, low, high):
    """Whether no thing stands above low and below high."""
    return not any([low in order[between] for between in order[high]])


def covers(order):
    """All tuples (low, high) of things, low below high and no thing between, sorted."""
    return sorted([
        (low, high)
        for high, below in enumerate(order)
        for low in below
        if has_none_between(order, low, high)
    ])


def turned(order):
    """The order upside down, with thing n - 1 - j in the place of j."""
    last = len(order) - 1
    return [sorted([last - high for high in above]) for above in reversed(aboves(order))]


def part_of(order, some):
    """The order of just some things, numbered anew by their rising numbers."""
    refuse_no_things(order, some)
    kept = sorted(set(some))
    return [[kept.index(low) for low in order[thing] if low in kept] for thing in kept]
