"""Stands: all that the firings of a weave change, for whoever fires them."""

from sampleweave.checks import are_samples, is_one_of, is_whole_within
from sampleweave.errors import NoInlet, NoOutlet, NoSample, NoWire
from sampleweave.nodes import Outlet
from sampleweave.rounds import first_queues


class Stand:
    """What is on each wire, front first; the memories by name; what has come out by name."""

    def __init__(self, queues, memories, out):
        self.queues = queues
        self.memories = memories
        self.out = out


def firing_names(weave):
    """The names of all nodes that have memories: all but inlets and outlets."""
    ends = weave.inlets() + weave.outlets()
    return [name for name in weave.names() if name not in ends]


def first_stand(weave, lates):
    """How a weave stands ahead of all firings."""
    queues = [[0] * many for many in first_queues(weave, lates=lates)]
    memories = {name: weave.node(name).fresh() for name in firing_names(weave)}
    return Stand(queues, memories, {name: [] for name in weave.outlets()})


def copy_of(stand):
    queues = [list(queue) for queue in stand.queues]
    return Stand(queues, dict(stand.memories), {name: list(stand.out[name]) for name in stand.out})


def give(weave, stand, name, samples):
    """Put samples on each wire that leads from a node."""
    for number in weave.out_of(name):
        stand.queues[number].extend(samples)


def has_all(weave, stand, name):
    """Whether a node has at each place what it takes."""
    takes = weave.node(name).takes()
    return all([len(stand.queues[number]) >= many for number, many in zip(weave.into(name), takes)])


def fire_once(weave, stand, name):
    """Fire a node, no inlet, that has all it takes; where its deed refuses, nothing has changed."""
    node = weave.node(name)
    taken = list(zip(weave.into(name), node.takes()))
    rows = [stand.queues[number][:many] for number, many in taken]
    given = []
    if isinstance(node, Outlet):
        stand.out[name].extend(rows[0])
    else:
        behind, given = node.fire(stand.memories[name], rows)
        stand.memories[name] = behind
    for number, many in taken:
        stand.queues[number] = stand.queues[number][many:]
    give(weave, stand, name, given)


def run_row(weave, stand, pieces, row):
    """The stand behind a row of firings, inlets giving their pieces ahead of it, and what came out by that.

    It is fired beside the stand, so that a deed that looks, or refuses, finds all as ahead of the row.
    """
    behind = copy_of(stand)
    for name in pieces:
        give(weave, behind, name, pieces[name])
    for name in row:
        fire_once(weave, behind, name)
    told = behind.out
    behind.out = {name: [] for name in told}
    return behind, told


def check_inlet(name, inlets):
    if not is_one_of(name, inlets):
        raise NoInlet(name)


def check_outlet(name, outlets):
    if not is_one_of(name, outlets):
        raise NoOutlet(name)


def check_samples(samples):
    if not are_samples(samples):
        raise NoSample("samples are a list of whole numbers")


def queue_on(stand, number):
    """The list of what is on a wire; what is the number of no wire is refused."""
    if not is_whole_within(number, 0, len(stand.queues) - 1):
        raise NoWire("wires are known by their numbers, from 0 on")
    return list(stand.queues[number])
