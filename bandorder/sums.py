"""Two orders laid together: beside one another, or the second one on top of the first."""

from bandorder.errors import Full
from bandorder.orders import MOST_THINGS


def refuse_too_many(one, other):
    if len(one) + len(other) > MOST_THINGS:
        raise Full("there are more than fourteen things in all")


def numbered_behind(order, many):
    """The lists of an order whose things are numbered behind so many others."""
    return [[low + many for low in below] for below in order]


def beside(one, other):
    """Both orders as one, nothing of the one below anything of the other."""
    refuse_too_many(one, other)
    return [list(below) for below in one] + numbered_behind(other, len(one))


def laid_on(one, other):
    """Both orders as one, each thing of the second one above each of the first."""
    refuse_too_many(one, other)
    under = list(range(len(one)))
    return [list(below) for below in one] + [under + below for below in numbered_behind(other, len(one))]
