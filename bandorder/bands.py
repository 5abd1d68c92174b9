"""The bands and the steps of an order."""

from bandorder.flows import many_held, stages
from bandorder.shapes import by_columns


def bands(order):
    """How many more things 1, 2 and so on chains hold at most than one chain fewer, up to all things."""
    held = [many_held(chains) for chains, marks in stages(order)]
    return [held[many] - held[many - 1] for many in range(1, len(held))]


def steps(order):
    """How many more things 1, 2 and so on crowds hold at most than one crowd fewer, up to all things.

    The step l is how many bands are l or more, so no crowds need to be looked for.
    """
    return by_columns(bands(order))
