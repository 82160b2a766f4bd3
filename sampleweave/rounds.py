"""Rounds: how often each node fires in one, and how many noughts stand on each wire at first."""

from sampleweave.errors import Clash
from sampleweave.walks import end_of, greatest_divisor, steps_from, times_rate, walk_round


def grow_piece(weave, root, rates, path_of):
    """Tell the piece of the root, a list of names, and note for each its rate and the path to it, both from the root.

    The rate of a name is the fraction of its count by that of the root.
    """
    rates[root] = (1, 1)
    path_of[root] = []
    piece = [root]
    at = 0
    while at < len(piece):
        here = piece[at]
        at += 1
        for step in steps_from(weave, here):
            there = end_of(weave, step)
            if there not in rates:
                rates[there] = times_rate(weave, rates[here], step)
                path_of[there] = [*path_of[here], step]
                piece.append(there)
    return piece


def least_counts(piece, rates):
    """The least whole numbers that stand to each other as the rates of these names do, by name."""
    shared = 1
    for name in piece:
        below = rates[name][1]
        shared = shared * below // greatest_divisor(shared, below)
    # The rates are in lowest terms and the root's is 1, so these have no common divisor.
    return {name: rates[name][0] * shared // rates[name][1] for name in piece}


def clashing_wire(weave, rates):
    """The number of the first wire along which the rates don't fit, None where all do."""
    for number, (source, goal, place, delay) in enumerate(weave.wires()):
        if times_rate(weave, rates[source], (number, True)) != rates[goal]:
            return number
    return None


def counts(weave):
    """("counts", a list of tuples (name, count)), or ("clash", a walk round which they don't come home)."""
    rates = {}
    path_of = {}
    found = {}
    for name in weave.names():
        if name not in rates:
            piece = grow_piece(weave, name, rates, path_of)
            found.update(least_counts(piece, rates))
    number = clashing_wire(weave, rates)
    if number is not None:
        return "clash", walk_round(weave, number, path_of)
    return "counts", [(name, found[name]) for name in weave.names()]


def counts_by_name(weave):
    """The counts by name; a weave that has none is refused."""
    word, told = counts(weave)
    if word == "clash":
        raise Clash(told)
    return dict(told)


def first_queues(weave, *, lates=False):
    """How many noughts each wire holds at first, as meant or as run."""
    lengths = []
    for source, goal, place, delay in weave.wires():
        node = weave.node(source)
        further = node.late() * node.gives() if lates else 0
        lengths.append(delay + further)
    return lengths
