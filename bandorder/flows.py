"""The most that so many chains hold, found by a flow that grows chain by chain.

Each thing has two points, a foot and a head, with a gate from foot to head that one chain may pass and that is
worth 1. Arcs worth nought lead from the source to each foot, from each head to the sink, and from a thing's head
to the feet of those above it. So a flow of k from the source to the sink is k chains, no two sharing a thing,
and it is worth as many things as they hold. Grown each time along a way that is worth most, it holds at each k
the most that k chains hold; the way may go against the flow, so that chains change what they hold.
"""


def foot(thing):
    return 2 * thing


def head(thing):
    return 2 * thing + 1


def source(order):
    return 2 * len(order)


def sink(order):
    return 2 * len(order) + 1


def many_points(order):
    return 2 * len(order) + 2


def arcs_of(order):
    """All arcs, as tuples (start, end, worth)."""
    arcs = []
    for thing, below in enumerate(order):
        arcs.append((source(order), foot(thing), 0))
        arcs.append((foot(thing), head(thing), 1))
        arcs.append((head(thing), sink(order), 0))
        for low in below:
            arcs.append((head(low), foot(thing), 0))
    return arcs


def open_arcs(order, flow):
    """The arcs that a way may take: those with room, and against the flow those that the flow takes.

    Only a gate is ever without room; that keeps the marks of all feet from falling below nought.
    """
    told = []
    for start, end, worth in arcs_of(order):
        taken = (start, end) in flow
        if worth == 0 or not taken:
            told.append((start, end, worth))
        if taken:
            told.append((end, start, -worth))
    return told


def is_better(marks, start, end, worth):
    """Whether the way by start is worth more than what is marked at end so far."""
    if marks[start] is None:
        return False
    return marks[end] is None or marks[end] < marks[start] + worth


def best_ways(order, flow):
    """For each point the most that a way from the source to it is worth, and the point ahead of it on that way."""
    marks = [None for point in range(many_points(order))]
    ahead = [None for point in range(many_points(order))]
    marks[source(order)] = 0
    arcs = open_arcs(order, flow)
    moved = True
    while moved:
        moved = False
        for start, end, worth in arcs:
            if is_better(marks, start, end, worth):
                marks[end] = marks[start] + worth
                ahead[end] = start
                moved = True
    return marks, ahead


def grown(order, flow, ahead):
    """The flow that is greater by one, along the way to the sink."""
    told = {arc: True for arc in flow}
    end = sink(order)
    while ahead[end] is not None:
        start = ahead[end]
        back = (end, start)
        if back in told:
            del told[back]
        else:
            told[(start, end)] = True
        end = start
    return told


def chain_from(order, flow, lowest):
    """The chain that the flow takes from its lowest thing up."""
    chain = [lowest]
    for thing in range(lowest + 1, len(order)):
        if (head(chain[-1]), foot(thing)) in flow:
            chain.append(thing)
    return chain


def chains_in(order, flow):
    """The chains that the flow takes."""
    return [
        chain_from(order, flow, thing)
        for thing in range(len(order))
        if (source(order), foot(thing)) in flow
    ]


def many_held(chains):
    """How many things some chains hold, no two of which share a thing."""
    return sum([len(chain) for chain in chains])


def stages(order):
    """For 0, 1, 2 and so on chains, up to as few as hold all: tuples (chains, marks).

    The chains hold the most that so many can; the marks are what the best ways are worth beside their flow.
    Where the chains hold all things, marks of nought do as well, and the sink may be out of reach.
    """
    told = []
    flow = {}
    chains = []
    while many_held(chains) < len(order):
        marks, ahead = best_ways(order, flow)
        told.append((chains, marks))
        flow = grown(order, flow, ahead)
        chains = chains_in(order, flow)
    told.append((chains, [0 for point in range(many_points(order))]))
    return told
