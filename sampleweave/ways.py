"""Ways: which nodes feed which, and the part of a weave that feeds some of them."""

from sampleweave.reaching import all_reached
from sampleweave.weaves import Weave


def names_feeding(weave, names):
    """The names, as keys, of all nodes that feed one of these; the first one that is unknown is refused."""
    for name in names:
        weave.node(name)
    wires = weave.wires()
    back = {each: [wires[number][0] for number in weave.into(each)] for each in weave.names()}
    return all_reached(names, back)


def feeding(weave, name):
    """The names of the nodes that feed this one."""
    fed = names_feeding(weave, [name])
    return [each for each in weave.names() if each in fed]


def fed_by(weave, name):
    """The names of the nodes that this one feeds."""
    weave.node(name)
    wires = weave.wires()
    onward = {each: [wires[number][1] for number in weave.out_of(each)] for each in weave.names()}
    reached = all_reached([name], onward)
    return [each for each in weave.names() if each in reached]


def cone(weave, names):
    """The weave of all nodes that feed one of the names, and of the wires between them."""
    fed = names_feeding(weave, names)
    nodes = [(name, weave.node(name)) for name in weave.names() if name in fed]
    # Whatever leads to one of these nodes comes from one, too.
    return Weave(nodes, [wire for wire in weave.wires() if wire[1] in fed])
