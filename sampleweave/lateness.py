"""Lateness: by how many firings nodes have to wait for late ones, and weaves that make up for it by delays alone."""

from sampleweave.errors import Knot, Short
from sampleweave.liveness import live_row
from sampleweave.rings import chain_back, closed_ring, shortest_way
from sampleweave.rounds import counts_by_name
from sampleweave.stands import firing_names
from sampleweave.weaves import Weave


def samples_behind(weave, number, lateness):
    """By how many samples what comes along a wire is too late, where its source has this lateness."""
    source, goal, place, delay = weave.wires()[number]
    node = weave.node(source)
    return node.gives() * (lateness + node.late()) - delay


def taken_at(weave, number):
    """How many samples the goal of a wire takes from it at a firing."""
    source, goal, place, delay = weave.wires()[number]
    return weave.node(goal).takes()[place]


def divided_up(number, by):
    """The least whole number that, times by, is at least the number."""
    return -(-number // by)


def refuse_knots(weave):
    """Refuse a ring of unlike counts; it has a wire between two nodes of unlike counts."""
    shares = counts_by_name(weave)
    for number, (source, goal, place, delay) in enumerate(weave.wires()):
        if shares[source] != shares[goal]:
            home = shortest_way(weave, goal, source)
            if home is not None:
                raise Knot([number, *home])


def least_latenesses(weave):
    """The least lateness by name, and for each name that is late the number of the wire that makes it so.

    Latenesses grow as the wires ask. Where a wire makes a node late by way of that node's own lateness, this would
    never come to an end: then there is too little delay round that ring.
    """
    live_row(weave, False)
    refuse_knots(weave)
    wires = weave.wires()
    least = {name: 0 for name in weave.names()}
    back = {}
    goes_on = True
    while goes_on:
        goes_on = False
        for number, (source, goal, place, delay) in enumerate(wires):
            asked = divided_up(samples_behind(weave, number, least[source]), taken_at(weave, number))
            if asked > least[goal]:
                ring = closed_ring(wires, number, back)
                if ring is not None:
                    raise Short(ring)
                least[goal] = asked
                back[goal] = number
                goes_on = True
    return least, back


def latenesses(weave):
    """A list of tuples (name, its least lateness)."""
    least, back = least_latenesses(weave)
    return [(name, least[name]) for name in weave.names()]


def chain(weave, name):
    """The numbers of wires, one behind the other, that make the node as late as it is."""
    weave.node(name)
    least, back = least_latenesses(weave)
    return chain_back(weave.wires(), name, back)


def rounds_for(weave, least):
    """The least number of rounds behind which no outlet has to wait any more."""
    shares = counts_by_name(weave)
    return max([divided_up(least[name], shares[name]) for name in weave.outlets()], default=0)


def rounds_late(weave):
    least, back = least_latenesses(weave)
    return rounds_for(weave, least)


def begun_later(weave, least):
    """The nodes as tuples (name, node), all but inlets and outlets beginning later by their least latenesses."""
    firing = firing_names(weave)
    nodes = []
    for name in weave.names():
        node = weave.node(name)
        nodes.append((name, node.begun(least[name]) if name in firing else node))
    return nodes


def further_delays(weave, least):
    """For each wire the delay by which its samples come when their goal waits for them."""
    shares = counts_by_name(weave)
    rounds = rounds_for(weave, least)
    waits = dict(least)
    for name in weave.outlets():
        waits[name] = shares[name] * rounds
    delays = []
    for number, (source, goal, place, delay) in enumerate(weave.wires()):
        delays.append(taken_at(weave, number) * waits[goal] - samples_behind(weave, number, least[source]))
    return delays


def made_up(weave):
    """The weave that, as run, tells what this one tells as meant, the rounds late later."""
    least, back = least_latenesses(weave)
    return Weave(begun_later(weave, least), weave.wires()).delayed(further_delays(weave, least))
