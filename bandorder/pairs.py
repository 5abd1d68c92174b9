"""Pairs of chains and crowds, each of which shows that no so many hold more."""

from bandorder.bands import bands, steps
from bandorder.errors import NoPair
from bandorder.flows import foot, head, sink, stages


def many_beside(sizes, many):
    """How many of the other kind stand in a pair beside so many, by the bands or the steps."""
    if not 0 <= many <= len(sizes):
        raise NoPair("there is no pair with so many")
    if len(sizes) == 0:
        return 0
    return sizes[max(many, 1) - 1]


def fitting_marks(order, found, many_chains, many_crowds):
    """Marks that fit the flow of so many chains and are many_crowds at the sink.

    The marks from which the flow was grown fit it, too, lowered by whatever number; and the greater of two marks
    that fit, point by point, fits. So they are lowered until the sink has the wanted number, but nowhere below
    the flow's own marks.
    """
    marks = found[many_chains][1]
    if many_chains == 0:
        return marks
    earlier = found[many_chains - 1][1]
    down = earlier[sink(order)] - many_crowds
    return [max(mark, old - down) for mark, old in zip(marks, earlier)]


def crowd_at(order, marks, level):
    """The things at whose gate the marks come up to the level.

    No two of these stand one below the other, since marks do not fall from a head to the feet above it; and each
    chain has one of them, since along it marks go from nought up to the sink's, by 1 at most, and only at gates.
    """
    return [thing for thing in range(len(order)) if marks[foot(thing)] < level <= marks[head(thing)]]


def pair_with(order, many_chains, many_crowds):
    """A pair with so many chains and crowds, where many_crowds is no more than their band and no less than the next."""
    found = stages(order)
    marks = fitting_marks(order, found, many_chains, many_crowds)
    crowds = [crowd_at(order, marks, level) for level in range(1, many_crowds + 1)]
    return found[many_chains][0], crowds


def by_chains(order, many):
    """A pair with so many chains, and as many crowds as their band says."""
    return pair_with(order, many, many_beside(bands(order), many))


def by_crowds(order, many):
    """A pair with so many crowds, and as many chains as their step says."""
    return pair_with(order, many_beside(steps(order), many), many)


def fewest_chains(order):
    """As few chains as can be that hold all things, no two sharing one."""
    chains, crowds = by_crowds(order, 0)
    return chains


def widest(order):
    """A crowd of as many things as can be; of no things the empty list."""
    if len(order) == 0:
        return []
    chains, crowds = by_crowds(order, 1)
    return crowds[0]
