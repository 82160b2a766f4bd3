"""Stretches: rows in which each node fires all that some rounds ask, without another one between."""

from sampleweave.checks import is_whole
from sampleweave.errors import NoCount
from sampleweave.rings import ring_back
from sampleweave.rounds import counts_by_name, first_queues


def taken_in_a_round(weave, shares, number):
    """How many samples the goal of a wire takes from it in a round."""
    source, goal, place, delay = weave.wires()[number]
    return shares[goal] * weave.node(goal).takes()[place]


def is_tight(weave, shares, number, length, rounds):
    """Whether a wire with a first queue of this length is tight for so many rounds."""
    source, goal, place, delay = weave.wires()[number]
    if source == goal:
        # What the node gives stands there for its next firing, so it is the first one alone that may lack something.
        return length < weave.node(goal).takes()[place]
    return length < taken_in_a_round(weave, shares, number) * rounds


def tight_wires(weave, shares, lengths, rounds):
    return [number for number, length in enumerate(lengths) if is_tight(weave, shares, number, length, rounds)]


def holding(wires, tight, name, placed):
    """The numbers of the tight wires to a node whose sources don't stand in the row yet."""
    return [number for number in tight if wires[number][1] == name and wires[number][0] not in placed]


def row_along(weave, tight):
    """A row of names in which the source of each tight wire stands ahead of its goal, as long as there can be one."""
    wires = weave.wires()
    placed = {}
    goes_on = True
    while goes_on:
        goes_on = False
        for name in weave.names():
            if name not in placed and not holding(wires, tight, name, placed):
                placed[name] = True
                goes_on = True
    return list(placed)


def row_or_ring(weave, tight):
    """("row", names) where no tight wires make a ring, else ("ring", numbers)."""
    row = row_along(weave, tight)
    held = [name for name in weave.names() if name not in row]
    if not held:
        return "row", row
    wires = weave.wires()
    back = {name: holding(wires, tight, name, row)[0] for name in held}
    return "ring", ring_back(wires, held[0], back)


def stretch(weave, rounds, *, lates=False):
    """("row", names), a stretch for so many rounds, or ("ring", numbers), the tight wires that stand in its way."""
    if not is_whole(rounds) or rounds < 1:
        raise NoCount("rounds are a whole number from 1 on")
    shares = counts_by_name(weave)
    lengths = first_queues(weave, lates=lates)
    return row_or_ring(weave, tight_wires(weave, shares, lengths, rounds))


def loose_until(weave, lengths):
    """Rising, the numbers of rounds for which some wire is not tight, but tight for one more."""
    shares = counts_by_name(weave)
    wires = weave.wires()
    parting = [number for number in range(len(wires)) if wires[number][0] != wires[number][1]]
    return sorted([lengths[number] // taken_in_a_round(weave, shares, number) for number in parting])


def most_rounds(weave, *, lates=False):
    """The greatest number for which there is a stretch; 0 where there is none, None where there is no greatest one."""
    bounds = loose_until(weave, first_queues(weave, lates=lates))
    beyond = max(bounds, default=0) + 1
    if stretch(weave, beyond, lates=lates)[0] == "row":
        return None
    # Between two of the bounds no wire becomes tight, so the greatest number is one of them.
    for rounds in bounds[::-1]:
        if rounds > 0 and stretch(weave, rounds, lates=lates)[0] == "row":
            return rounds
    return 0
