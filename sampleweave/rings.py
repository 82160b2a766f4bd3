"""Rings and chains: wires of which each leads from the goal of the one ahead."""


def ring_back(wires, start, back):
    """A ring that is found by going back from a name; back tells for each name by the number of which wire."""
    gone = []
    stood = {}
    here = start
    while here not in stood:
        stood[here] = len(gone)
        gone.append(back[here])
        here = wires[back[here]][0]
    ring = gone[stood[here]:]
    return ring[::-1]


def chain_back(wires, end, back, start=None):
    """The chain to a name from as far back as back tells, or from the start where one comes by there.

    back tells by the number of which wire one goes back from a name; no ring may be found by that.
    """
    gone = []
    here = end
    while here != start and here in back:
        gone.append(back[here])
        here = wires[back[here]][0]
    return gone[::-1]


def closed_ring(wires, number, back):
    """The ring that a wire and the chain to its source make, None where that chain doesn't come by its goal."""
    source, goal, place, delay = wires[number]
    ring = [*chain_back(wires, source, back, goal), number]
    return ring if wires[ring[0]][0] == goal else None


def shortest_way(weave, start, end):
    """The numbers of the fewest wires that lead from one name to another, None where none do."""
    wires = weave.wires()
    back = {}
    coming = [start]
    at = 0
    while at < len(coming) and end not in coming:
        for number in weave.out_of(coming[at]):
            there = wires[number][1]
            if there not in coming:
                back[there] = number
                coming.append(there)
        at += 1
    return chain_back(wires, end, back) if end in coming else None
