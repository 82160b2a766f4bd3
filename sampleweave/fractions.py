"""Fractions: what weaves that only scale, mix, keep and hold back make of what goes in, as polynomials."""

from sampleweave.checks import is_whole_within
from sampleweave.equations import outlet_row
from sampleweave.errors import NoCount, NotLinear
from sampleweave.keepers import Taps
from sampleweave.liveness import live_row
from sampleweave.nodes import Gain, Inlet, Mix, Outlet
from sampleweave.polynomials import negative, terms
from sampleweave.stands import check_inlet, check_outlet

MOST_ROUNDS = 400


def check_linear(weave):
    live_row(weave, False)
    for name in weave.names():
        node = weave.node(name)
        if not isinstance(node, (Inlet, Outlet, Gain, Mix, Taps)) or node.begin() > 0:
            raise NotLinear(name)


def fraction_in(row, inlet, outlet):
    """The fraction from an inlet to the outlet whose row this is; an inlet that doesn't feed it isn't there."""
    return negative(row.get(inlet, [])), list(row[outlet])


def fraction(weave, inlet, outlet):
    """A tuple (above, below) of polynomials that tells, round by round, what comes out of what goes in."""
    check_linear(weave)
    check_inlet(inlet, weave.inlets())
    check_outlet(outlet, weave.outlets())
    return fraction_in(outlet_row(weave, outlet), inlet, outlet)


def expanded(above, below, rounds):
    """What comes out of a single 1, round by round, where this is the fraction."""
    further = terms(below)[1:]
    told = []
    for at in range(rounds):
        number = above[at] if at < len(above) else 0
        told.append(number - sum([by * told[at - power] for power, by in further if power <= at]))
    return told


def response(weave, inlet, outlet, rounds):
    """What comes out, over so many rounds, of a 1 in the first round and noughts else."""
    above, below = fraction(weave, inlet, outlet)
    if not is_whole_within(rounds, 0, MOST_ROUNDS):
        raise NoCount("rounds are a whole number from 0 to 400")
    return expanded(above, below, rounds)
