"""Shapes: lists of whole numbers from 1 on that never rise."""

from bandorder.errors import NoShape


def never_rises(row):
    """Whether no number of a list is greater than the one ahead of it."""
    return all([row[at] >= row[at + 1] for at in range(len(row) - 1)])


def is_shape(row):
    """Whether a list of whole numbers is a shape."""
    return all([number >= 1 for number in row]) and never_rises(row)


def by_columns(shape):
    """At place l - 1 how many of the shape's numbers are l or more."""
    return [len([number for number in shape if number >= tall]) for tall in range(1, max(shape, default=0) + 1)]


def is_within(one, other):
    """Whether the one has no more numbers, and none greater than the other one's at its place."""
    return len(one) <= len(other) and all([number <= room for number, room in zip(one, other)])


def number_at(shape, place):
    """The shape's number at a place; what lacks counts as nought."""
    return shape[place] if place < len(shape) else 0


def places_of_both(one, other):
    """All places at which one of two shapes has a number."""
    return list(range(max(len(one), len(other))))


def box_at(one, other):
    """The place at which the other shape has just one box more."""
    unlike = [place for place in places_of_both(one, other) if number_at(one, place) != number_at(other, place)]
    if len(unlike) != 1 or number_at(other, unlike[0]) != number_at(one, unlike[0]) + 1:
        raise NoShape("the second shape has not just one box more")
    return unlike[0]


def is_beneath(one, other):
    """Whether so many first numbers of the one are together never more than so many of the other."""
    return all([sum(one[:place + 1]) <= sum(other[:place + 1]) for place in places_of_both(one, other)])


def merged(one, other):
    """The shape of all numbers of both."""
    return sorted(one + other, reverse=True)


def added(one, other):
    """The shape of the sums of both, place by place."""
    return [number_at(one, place) + number_at(other, place) for place in places_of_both(one, other)]
