"""Weaves: nodes by their names, and the wires between them."""

from sampleweave.checks import is_name, is_one_of, is_whole_within
from sampleweave.errors import Bare, NoDelay, NoName, NoNode, NoPlace, Taken, TooMany, Twice, Unfed, Unknown, Unlike
from sampleweave.nodes import Inlet, Node, Outlet
from sampleweave.reaching import all_reached

MOST_NODES = 24
MOST_WIRES = 48
MOST_DELAY = 9999


def nodes_by_name(nodes):
    """The nodes by their names, in order; the first one that is none, or has none, is refused."""
    named = {}
    for name, node in nodes:
        if not is_name(name):
            raise NoName(name)
        if name in named:
            raise Twice(name)
        if not isinstance(node, Node):
            raise NoNode("node")
        named[name] = node
    return named


def check_wire(number, wire, named):
    """Refuse what is no wire between these nodes, whichever other wires there are."""
    source, goal, place, delay = wire
    if not is_one_of(source, named):
        raise Unknown(source)
    if not is_one_of(goal, named):
        raise Unknown(goal)
    if isinstance(named[source], Outlet) or not is_whole_within(place, 0, len(named[goal].takes()) - 1):
        raise NoPlace(number)
    if not is_whole_within(delay, 0, MOST_DELAY):
        raise NoDelay(number)


def wires_by_goal(wires, named):
    """For each name the numbers of the wires to its places, in their order, None where there is none."""
    leading = {name: [None] * len(named[name].takes()) for name in named}
    for number, wire in enumerate(wires):
        check_wire(number, wire, named)
        source, goal, place, delay = wire
        if leading[goal][place] is not None:
            raise Taken(number)
        leading[goal][place] = number
    return leading


def refuse_bare(leading):
    for name in leading:
        for place, number in enumerate(leading[name]):
            if number is None:
                raise Bare(name, place)


def wires_by_source(wires, named):
    """For each name the numbers of the wires that lead from it, rising."""
    leaving = {name: [] for name in named}
    for number, wire in enumerate(wires):
        leaving[wire[0]].append(number)
    return leaving


def refuse_unfed(named, wires, leaving):
    onward = {name: [wires[number][1] for number in leaving[name]] for name in named}
    reached = all_reached([name for name in named if isinstance(named[name], Inlet)], onward)
    for name in named:
        if name not in reached:
            raise Unfed(name)


class Weave:
    """A value: nothing that is asked of a weave changes it."""

    def __init__(self, nodes, wires):
        if len(nodes) > MOST_NODES or len(wires) > MOST_WIRES:
            raise TooMany("a weave has at most 24 nodes and 48 wires")
        self.named = nodes_by_name(nodes)
        self.leading = wires_by_goal(wires, self.named)
        refuse_bare(self.leading)
        self.laid = [(source, goal, place, delay) for source, goal, place, delay in wires]
        self.leaving = wires_by_source(self.laid, self.named)
        refuse_unfed(self.named, self.laid, self.leaving)

    def names(self):
        return list(self.named)

    def node(self, name):
        self.check_known(name)
        return self.named[name]

    def wires(self):
        return list(self.laid)

    def inlets(self):
        return [name for name in self.named if isinstance(self.named[name], Inlet)]

    def outlets(self):
        return [name for name in self.named if isinstance(self.named[name], Outlet)]

    def into(self, name):
        self.check_known(name)
        return list(self.leading[name])

    def out_of(self, name):
        self.check_known(name)
        return list(self.leaving[name])

    def put(self, name, node):
        elder = self.node(name)
        if not isinstance(node, Node):
            raise NoNode("node")
        if node.takes() != elder.takes() or node.gives() != elder.gives():
            raise Unlike(name)
        return Weave([(each, node if each == name else self.named[each]) for each in self.named], self.laid)

    def delayed(self, delays):
        rows = [(source, goal, place, delay) for (source, goal, place, elder), delay in zip(self.laid, delays)]
        return Weave(self.pairs(), rows)

    def pairs(self):
        """The nodes as they were handed in: tuples (name, node), in order."""
        return [(name, self.named[name]) for name in self.named]

    def check_known(self, name):
        if not is_one_of(name, self.named):
            raise Unknown(name)

    def __eq__(self, other):
        return isinstance(other, Weave) and self.pairs() == other.pairs() and self.laid == other.laid

    def __len__(self):
        return len(self.named)
