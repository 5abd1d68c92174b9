"""Pairs that anyone may have written, and whether they are let by."""

from bandorder.chains import is_chain, is_crowd


def are_all_chains(order, rows):
    return all([is_chain(order, row) for row in rows])


def are_all_crowds(order, rows):
    return all([is_crowd(order, row) for row in rows])


def share_none(rows):
    """Whether no two of some rising lists share a thing."""
    things = [thing for row in rows for thing in row]
    return len(things) == len(set(things))


def hold_all(order, rows):
    """Whether each thing is in one of the lists at least."""
    return all([any([thing in row for row in rows]) for thing in range(len(order))])


def each_meets_each(chains, crowds):
    """Whether each of the chains shares a thing with each of the crowds."""
    return all([any([thing in crowd for thing in chain]) for chain in chains for crowd in crowds])


def lets_by(order, chains, crowds):
    """Whether two lists are the chains and the crowds of a pair."""
    if not are_all_chains(order, chains) or not are_all_crowds(order, crowds):
        return False
    if not share_none(chains) or not share_none(crowds):
        return False
    return hold_all(order, chains + crowds) and each_meets_each(chains, crowds)
