"""Weaves for many tests, by hand and by chance (always the same chance), and what of them can be looked up."""

import random

from sampleweave.errors import WeaveError
from sampleweave.keepers import Count, Latch, Tape, Taps
from sampleweave.liveness import live
from sampleweave.nodes import Choose, Clip, Gain, Inlet, Mix, Outlet, Own, Share, Times
from sampleweave.rates import Down, Resample, Up
from sampleweave.weaves import Weave

NAMES = [one + other for one in "bcdf" for other in "aeiouy"]


def weave_of(nodes, wires):
    """A weave of a dict from names to nodes, and of wires written as texts: "source goal place delay"."""
    rows = [row.split() for row in wires]
    return Weave(list(nodes.items()), [(row[0], row[1], int(row[2]), int(row[3])) for row in rows])


def chain(*nodes, delay=0):
    """An inlet "in", nodes of one place one behind the other, "a", "b" and so on, and an outlet "out"."""
    names = ["in"] + list("abcdefgh"[:len(nodes)]) + ["out"]
    wires = [(one, other, 0, delay) for one, other in zip(names, names[1:])]
    return Weave(list(zip(names, [Inlet(), *nodes, Outlet()])), wires)


def echo(delay=1, by=2):
    """A ring of a mix and a gain, from an inlet to an outlet."""
    return weave_of({"in": Inlet(), "mix": Mix(2), "gain": Gain(by), "out": Outlet()},
                    ["in mix 0 0", "gain mix 1 0", f"mix gain 0 {delay}", "mix out 0 0"])


def churning(gives):
    """A deed that gives so many samples, each of which hangs on all that it was handed so far."""
    def deed(memory, rows):
        total = memory
        for at, row in enumerate(rows):
            for sample in row:
                total = (total * 3 + sample * (at + 2) + 1) % 100003
        return total, [total + at for at in range(gives)]
    return deed


def plain_node(chance, late=0):
    """A node that takes one sample at each place and gives one."""
    return chance.choice([
        lambda: Gain(chance.randint(-3, 3), late=late), lambda: Mix(chance.randint(1, 3), late=late),
        lambda: Times(late=late), lambda: Clip(-50, 50, late=late), lambda: Share(chance.randint(1, 4), late=late),
        lambda: Choose(late=late), lambda: Taps([chance.randint(-3, 3) for _ in range(3)], late=late),
        lambda: Latch(late=late), lambda: Count(late=late), lambda: Tape([1, 2, 3], True, late=late),
        lambda: Own(churning(1), late=late), lambda: Gain(2, late=late, begin=chance.randint(0, 3)),
    ])()


def rated_node(chance, late=0):
    return chance.choice([
        lambda: Up(chance.randint(1, 3), chance.choice([True, False]), late=late),
        lambda: Down(chance.randint(1, 3), late=late),
        lambda: Resample(chance.randint(1, 3), chance.randint(1, 3), [1, 2, 3], late=late),
        lambda: Own(churning(2), (chance.randint(1, 3), chance.randint(1, 2)), 2, late=late),
    ])()


def wired(chance, nodes, delays):
    """The nodes with wires from sources picked by chance, or None where that is no weave."""
    sources = [name for name, node in nodes if not isinstance(node, Outlet)]
    wires = []
    for name, node in nodes:
        for place in range(len(node.takes())):
            wires.append((chance.choice(sources), name, place, chance.choice(delays)))
    chance.shuffle(wires)
    try:
        return Weave(nodes, wires)
    except WeaveError:
        return None


def named(chance, nodes):
    """The nodes by names, in an order picked by chance."""
    pairs = list(zip(NAMES, nodes))
    chance.shuffle(pairs)
    return pairs


def of_one_rate(chance, delays=(0, 0, 1, 2, 3), lates=(0,)):
    """A weave of which all counts are 1; live or stuck."""
    while True:
        inner = [plain_node(chance, chance.choice(lates)) for _ in range(chance.randint(1, 6))]
        ends = [Inlet() for _ in range(chance.randint(1, 2))] + [Outlet() for _ in range(chance.randint(1, 2))]
        weave = wired(chance, named(chance, ends + inner), delays)
        if weave is not None:
            return weave


def of_any_rate(chance, delays=(0, 1, 5), lates=(0,)):
    """A weave whose rates mostly clash."""
    while True:
        inner = [chance.choice([plain_node, rated_node])(chance, chance.choice(lates))
                 for _ in range(chance.randint(2, 8))]
        weave = wired(chance, named(chance, [Inlet() for _ in range(chance.randint(1, 3))] + [Outlet()] + inner), delays)
        if weave is not None:
            return weave


def fitting(chance, delays=(0, 0, 1, 2, 4, 9), lates=(0,)):
    """A weave of Own nodes whose rates fit: each has its count, and takes what the counts of its sources ask for."""
    while True:
        weave = try_fitting(chance, delays, lates)
        if weave is not None:
            return weave


def try_fitting(chance, delays, lates):
    shares = {name: chance.choice([1, 1, 2, 3, 4, 6]) for name in NAMES[:chance.randint(3, 8)]}
    names = list(shares)
    inlets = names[:chance.randint(1, 2)]
    gives = {name: 1 if name in inlets else chance.choice([1, 1, 2, 3]) for name in names}
    nodes, wires = [], []
    for name in names:
        if name in inlets:
            nodes.append((name, Inlet()))
            continue
        sources = [other for other in names if shares[other] * gives[other] % shares[name] == 0
                   and shares[other] * gives[other] // shares[name] <= 8]
        if not sources:
            return None
        picked = [chance.choice(sources) for _ in range(chance.randint(1, 3))]
        takes = tuple(shares[other] * gives[other] // shares[name] for other in picked)
        nodes.append((name, Own(churning(gives[name]), takes, gives[name], late=chance.choice(lates))))
        wires += [(other, name, place, chance.choice(delays)) for place, other in enumerate(picked)]
    for name, source in zip(("out", "away"), chance.sample(names, 2)):
        nodes.append((name, Outlet()))
        wires.append((source, name, 0, chance.choice(delays)))
    chance.shuffle(nodes)
    chance.shuffle(wires)
    try:
        return Weave(nodes, wires)
    except WeaveError:
        return None


def many_weaves(seed, many, **more):
    """Weaves of all these kinds."""
    chance = random.Random(seed)
    makers = [of_one_rate, of_any_rate, fitting, fitting]
    return [makers[at % len(makers)](chance, **more) for at in range(many)]


def rate(weave, number):
    """What the source of a wire gives, and what its goal takes there."""
    source, goal, place, delay = weave.wires()[number]
    return weave.node(source).gives(), weave.node(goal).takes()[place]


def leads_on(weave, ring):
    """Whether each of the wires leads from the goal of the one ahead, the first one from that of the last."""
    wires = weave.wires()
    return all(wires[one][1] == wires[other][0] for one, other in zip([ring[-1]] + ring, ring))


class Queues:
    """How many samples stand on the wires: firings without any samples, to test rows by."""

    def __init__(self, weave, lengths):
        self.weave = weave
        self.lengths = list(lengths)

    def can_fire(self, name):
        return all(self.lengths[number] >= rate(self.weave, number)[1] for number in self.weave.into(name))

    def fire(self, name):
        for number in self.weave.into(name):
            self.lengths[number] -= rate(self.weave, number)[1]
        for number in self.weave.out_of(name):
            self.lengths[number] += rate(self.weave, number)[0]


class Streams:
    """Another way to what comes out: each firing is worked out when it is asked for, and none in any order."""

    def __init__(self, weave, handed, lates=False):
        self.weave = weave
        self.handed = handed
        self.firings = {}
        self.firsts = [delay + (weave.node(source).late() * weave.node(source).gives() if lates else 0)
                       for source, goal, place, delay in weave.wires()]

    def sample(self, number, at):
        """The sample of this number, from 0 on, of all that ever stands on a wire."""
        source = self.weave.wires()[number][0]
        at -= self.firsts[number]
        if at < 0:
            return 0
        gives = self.weave.node(source).gives()
        return self.given(source, at // gives)[at % gives]

    def given(self, name, firing):
        if isinstance(self.weave.node(name), Inlet):
            return [self.handed[name][firing]]
        return self.fired(name, firing)[1]

    def fired(self, name, firing):
        if (name, firing) not in self.firings:
            node = self.weave.node(name)
            memory = self.fired(name, firing - 1)[0] if firing > 0 else node.fresh()
            rows = [[self.sample(number, firing * many + k) for k in range(many)]
                    for number, many in zip(self.weave.into(name), node.takes())]
            self.firings[name, firing] = node.fire(memory, rows)
        return self.firings[name, firing]

    def came(self, name, many):
        """What has come out behind so many firings of an outlet."""
        return [self.sample(self.weave.into(name)[0], at) for at in range(many)]

    def waiting(self, number, given, taken):
        """What is on a wire behind so many firings of its source and of its goal."""
        gives, takes = rate(self.weave, number)
        return [self.sample(number, at) for at in range(taken * takes, self.firsts[number] + given * gives)]


def linear_node(chance, taps=3, lates=(0,)):
    late = chance.choice(lates)
    return chance.choice([
        lambda: Gain(chance.randint(-3, 3), late=late), lambda: Mix(chance.randint(1, 3), late=late),
        lambda: Mix(2, late=late), lambda: Taps([chance.randint(-3, 3) for _ in range(taps)], late=late),
    ])()


def linear(chance, inner=6, ends=2, delays=(0, 0, 1, 2, 3), taps=3, lates=(0,)):
    """A weave that only scales, mixes, keeps and holds back, and is live as meant."""
    while True:
        nodes = [Inlet() for _ in range(chance.randint(1, ends))] + [Outlet() for _ in range(chance.randint(1, ends))]
        nodes += [linear_node(chance, taps, lates) for _ in range(chance.randint(1, inner))]
        weave = wired(chance, named(chance, nodes), delays)
        if weave is not None and live(weave)[0] == "live":
            return weave
