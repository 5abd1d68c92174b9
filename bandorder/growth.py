"""How the bands of an order grow thing by thing."""

from bandorder.bands import bands
from bandorder.shapes import box_at


def growth(order):
    """The bands of the first 0, 1, 2 and so on up to all things."""
    return [bands(order[:many]) for many in range(len(order) + 1)]


def stairs(order):
    """Each thing in the row at whose place the band grew by it."""
    shapes = growth(order)
    told = [[] for band in shapes[-1]]
    for thing in range(len(order)):
        told[box_at(shapes[thing], shapes[thing + 1])].append(thing)
    return told
