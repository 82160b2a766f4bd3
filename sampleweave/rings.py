"""Rings: wires of which each leads from the goal of the one ahead."""


def ring_back(wires, start, back):
    """A ring that is found by going back from a name; back tells for each name by the number of which wire."""
    gone = []
    stood = {}
    here = start
    while here not in stood:
        stood[here] = len(gone)
        gone.append(back[here])
        here = wires[back[here]][0]
    ring = gone[stood[here]:]
    return ring[::-1]
