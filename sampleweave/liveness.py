"""Liveness: whether a round can be fired at all, and what stands in the way where it can't."""

from sampleweave.errors import Stuck
from sampleweave.rings import ring_back
from sampleweave.rounds import counts_by_name, first_queues


def lacking(weave, lengths, name):
    """The numbers of the wires on which there are too few samples for a firing of this node."""
    takes = weave.node(name).takes()
    return [number for number, many in zip(weave.into(name), takes) if lengths[number] < many]


def note_firing(weave, lengths, name):
    """Change the lengths of the queues as a firing of this node does."""
    node = weave.node(name)
    for number, many in zip(weave.into(name), node.takes()):
        lengths[number] -= many
    for number in weave.out_of(name):
        lengths[number] += node.gives()


def fire_as_often_as_can_be(weave, shares, lengths):
    """Fire until no node can fire once more within its count, and tell the row of the names that were fired.

    Whichever node goes ahead, none takes what another one waits for: so the row comes to its end or none does.
    """
    left = dict(shares)
    row = []
    goes_on = True
    while goes_on:
        goes_on = False
        for name in weave.names():
            while left[name] > 0 and not lacking(weave, lengths, name):
                note_firing(weave, lengths, name)
                left[name] -= 1
                row.append(name)
                goes_on = True
    return row


def stuck_ring(weave, shares, fired, lengths):
    """A ring of wires that wait for each other, where no node can fire once more within its count."""
    held = [name for name in weave.names() if fired[name] < shares[name]]
    # A source that has fired as often as its count leaves enough on its wires: each of these waits for another one.
    back = {name: lacking(weave, lengths, name)[0] for name in held}
    return ring_back(weave.wires(), held[0], back)


def live(weave, *, lates=False):
    """("live", a row of names that makes a round), or ("stuck", how often each node was fired, a ring)."""
    shares = counts_by_name(weave)
    lengths = first_queues(weave, lates=lates)
    row = fire_as_often_as_can_be(weave, shares, lengths)
    fired = {name: 0 for name in weave.names()}
    for name in row:
        fired[name] += 1
    if fired == shares:
        return "live", row
    return "stuck", [(name, fired[name]) for name in fired], stuck_ring(weave, shares, fired, lengths)


def live_row(weave, lates):
    """A row of names that makes a round; a weave that has none is refused."""
    told = live(weave, lates=lates)
    if told[0] == "stuck":
        raise Stuck(told[1], told[2])
    return told[1]
