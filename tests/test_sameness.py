"""Weaves that are the same, and weaves that a single 1 parts."""

import random
import unittest

from sampleweave.errors import Clash, NotLinear, Stuck, Unlike
from sampleweave.keepers import Taps
from sampleweave.nodes import Gain, Inlet, Mix, Outlet, Own
from sampleweave.sameness import same
from sampleweave.weaves import Weave
from tests.test_fractions import clashing, engine_told, single
from tests.test_rounds import Judge
from tests.things import HUGE, adding
from tests.woven import chain, echo, linear, weave_of


def pairs(weave):
    return [(name, weave.node(name)) for name in weave.names()]


def retimed(chance, weave):
    """Delays moved from all wires into a node to all wires out of it."""
    inner = [name for name in weave.names() if name not in weave.inlets() + weave.outlets()]
    name = chance.choice(inner)
    delays = [wire[3] for wire in weave.wires()]
    loops = [number for number in weave.into(name) if weave.wires()[number][0] == name]
    less = min([delays[number] for number in weave.into(name) if number not in loops], default=0)
    for number in weave.into(name):
        delays[number] -= less
    for number in weave.out_of(name):
        delays[number] += less
    return weave.delayed(delays)


def with_a_gain_of_1(chance, weave):
    wires = weave.wires()
    at = chance.randrange(len(wires))
    source, goal, place, delay = wires[at]
    part = chance.randint(0, delay)
    wires[at] = (source, "extra", 0, part)
    return Weave(pairs(weave) + [("extra", Gain(1))], wires + [("extra", goal, place, delay - part)])


def with_a_node_that_leads_nowhere(chance, weave):
    sources = [name for name in weave.names() if name not in weave.outlets()]
    wires = [(chance.choice(sources), "nowhere", 0, 2), ("nowhere", "nowhere", 1, 1)]
    return Weave(pairs(weave) + [("nowhere", Mix(2))], weave.wires() + wires)


def with_a_late_node(chance, weave):
    inner = [name for name in weave.names() if name not in weave.inlets() + weave.outlets()]
    name = chance.choice(inner)
    node = weave.node(name)
    if isinstance(node, Gain):
        return weave.put(name, Gain(node.by, late=5))
    if isinstance(node, Mix):
        return weave.put(name, Mix(node.many, late=5))
    return weave.put(name, Taps(node.numbers, late=5))


def in_another_order(chance, weave):
    nodes, wires = pairs(weave), weave.wires()
    chance.shuffle(nodes)
    chance.shuffle(wires)
    return Weave(nodes, wires)


REWRITTEN = (retimed, with_a_gain_of_1, with_a_node_that_leads_nowhere, with_a_late_node, in_another_order)


def otherwise(chance, weave):
    """A number or a delay put otherwise; perhaps that has no bearing."""
    inner = [name for name in weave.names() if isinstance(weave.node(name), (Gain, Taps))]
    if inner and chance.random() < 0.6:
        name = chance.choice(inner)
        node = weave.node(name)
        if isinstance(node, Gain):
            return weave.put(name, Gain(node.by + chance.choice([-1, 1])))
        numbers = list(node.numbers)
        numbers[chance.randrange(len(numbers))] += 1
        return weave.put(name, Taps(numbers))
    delays = [wire[3] for wire in weave.wires()]
    delays[chance.randrange(len(delays))] += 1
    return weave.delayed(delays)


def looked_for(one, other, rounds):
    """The first inlet, outlet and round in which engines tell otherwise, over so many rounds."""
    for inlet in one.inlets():
        for outlet in one.outlets():
            mine = engine_told(one, inlet, outlet, single(rounds))
            theirs = engine_told(other, inlet, outlet, single(rounds))
            for at in range(rounds):
                if mine[at] != theirs[at]:
                    return "apart", inlet, outlet, at
    return ("same",)


class Same(unittest.TestCase):
    def test_a_weave_and_itself(self):
        chance = random.Random(121)
        for weave in [Weave([], []), echo(), chain(Gain(0))] + [linear(chance) for _ in range(40)]:
            self.assertEqual(same(weave, weave), ("same",))

    def test_by_hand(self):
        self.assertEqual(same(chain(Gain(2), Gain(3)), chain(Gain(6))), ("same",))
        self.assertEqual(same(other=chain(Taps([0, 5])), one=chain(Gain(5)).delayed([1, 0])), ("same",))
        self.assertEqual(same(chain(Gain(0)), chain(Taps([0, 0]), delay=9)), ("same",))
        self.assertEqual(same(chain(Taps([1, 2]), Taps([1, 3])), chain(Taps([1, 5, 6]))), ("same",))
        self.assertEqual(same(chain(Gain(2)), chain(Gain(3))), ("apart", "in", "out", 0))
        self.assertEqual(same(chain(Gain(2)), chain(Gain(2), delay=1)), ("apart", "in", "out", 0))
        self.assertEqual(same(chain(Taps([1, 2, 3])), chain(Taps([1, 2, 4]))), ("apart", "in", "out", 2))

    def test_a_ring_that_is_undone(self):
        ring = weave_of({"in": Inlet(), "mix": Mix(2), "gain": Gain(7), "undone": Taps([1, -7]), "out": Outlet()},
                        ["in mix 0 0", "gain mix 1 0", "mix gain 0 1", "mix undone 0 0", "undone out 0 0"])
        self.assertEqual(same(ring, chain(Gain(1))), ("same",))
        self.assertEqual(same(chain(Gain(1)), ring), ("same",))
        self.assertEqual(same(ring.put("undone", Taps([1, -6])), chain(Gain(1))), ("apart", "in", "out", 1))

    def test_rings_that_are_the_same(self):
        once = echo(1, 3)
        twice = weave_of({"in": Inlet(), "taps": Taps([1, 3]), "mix": Mix(2), "gain": Gain(9), "out": Outlet()},
                         ["in taps 0 0", "taps mix 0 0", "mix gain 0 2", "gain mix 1 0", "mix out 0 0"])
        self.assertEqual((same(once, twice), same(twice, once)), (("same",), ("same",)))
        self.assertEqual(same(once, twice.put("gain", Gain(8))), ("apart", "in", "out", 2))

    def test_rewritten(self):
        chance = random.Random(122)
        for at in range(150):
            weave = linear(chance)
            for rewrite in chance.sample(REWRITTEN, 3):
                other = rewrite(chance, weave)
                self.assertEqual((same(weave, other), same(other, weave)), (("same",), ("same",)))
            self.assertEqual(same(retimed(chance, weave), with_a_gain_of_1(chance, weave)), ("same",))

    def test_rewritten_again_and_again(self):
        chance = random.Random(123)
        for _ in range(40):
            weave = linear(chance)
            other = weave
            for rewrite in (retimed, with_a_late_node, in_another_order, retimed, with_a_gain_of_1, retimed):
                other = rewrite(chance, other)
            self.assertEqual((same(weave, other), same(other, weave)), (("same",), ("same",)))

    def test_put_otherwise(self):
        chance = random.Random(124)
        apart = 0
        for _ in range(150):
            weave = linear(chance)
            other = in_another_order(chance, otherwise(chance, weave))
            for one, two in ((weave, other), (other, weave)):
                expected = looked_for(one, two, 60)
                self.assertEqual(same(one, two), expected)
                apart += expected != ("same",)
        self.assertGreater(apart, 100)

    def test_in_the_order_of_the_weave_asked_first(self):
        nodes = {"ib": Inlet(), "ia": Inlet(), "ga": Gain(1), "gb": Gain(1), "ob": Outlet(), "oa": Outlet()}
        wires = ["ia ga 0 3", "ib gb 0 5", "ga oa 0 0", "gb ob 0 0"]
        one = weave_of(nodes, wires)
        two = one.put("ga", Gain(2)).put("gb", Gain(2))
        turned = Weave(pairs(two)[::-1], two.wires())
        self.assertEqual(same(one, turned), ("apart", "ib", "ob", 5))
        self.assertEqual(same(turned, one), ("apart", "ia", "oa", 3))

    def test_however_late(self):
        one = chain(Taps([1]), Gain(1)).delayed([900, 900, 0])
        two = one.put("a", Taps([1, 1]))
        self.assertEqual((same(one, two), same(two, one)), (("apart", "in", "out", 1801),) * 2)
        weave = echo(0, 1).delayed([0, 700, 800, 0])
        self.assertEqual(same(weave, weave.put("gain", Gain(2))), ("apart", "in", "out", 1500))
        self.assertEqual(same(weave, weave.delayed([0, 800, 700, 0])), ("same",))
        self.assertEqual(same(weave, weave.delayed([0, 800, 701, 0])), ("apart", "in", "out", 1500))

    def test_later_than_either_keeps_anything(self):
        ring = weave_of({"in": Inlet(), "mix": Mix(2), "out": Outlet()}, ["in mix 0 0", "mix mix 1 5", "mix out 0 0"])
        taps = chain(Taps([1, 0, 0, 0, 0, 1, 0, 0, 0, 0, 1]))
        self.assertEqual((same(ring, taps), same(taps, ring)), (("apart", "in", "out", 15),) * 2)

    def test_great_numbers(self):
        self.assertEqual(same(chain(Gain(HUGE), Gain(HUGE)), chain(Gain(HUGE), Gain(HUGE + 1))),
                         ("apart", "in", "out", 0))
        self.assertEqual(same(echo(1, HUGE), echo(1, HUGE)), ("same",))
        self.assertEqual(same(echo(1, HUGE), echo(1, -HUGE)), ("apart", "in", "out", 1))


class Refused(Judge):
    def test_of_the_one_then_of_the_other(self):
        own = chain(Own(adding))
        stuck = echo(0)
        for other in (echo(0), clashing(), own, Weave([], []), echo()):
            self.judge_walk(clashing(), self.refused(Clash, lambda: same(clashing(), other)).walk)
            self.assertEqual(sorted(self.refused(Stuck, lambda: same(stuck, other)).ring), [1, 2])
            self.assertEqual(self.refused(NotLinear, lambda: same(own, other)).who, "a")
        for one in (echo(), Weave([], [])):
            self.refused(Clash, lambda: same(one, clashing()))
            self.refused(Stuck, lambda: same(one, stuck))
            self.assertEqual(self.refused(NotLinear, lambda: same(one, own)).who, "a")
            self.refused(NotLinear, lambda: same(one, chain(Gain(1, begin=1))))

    def test_unlike(self):
        old = weave_of({"ia": Inlet(), "oa": Outlet(), "ib": Inlet(), "ob": Outlet()}, ["ia oa 0 0", "ib ob 0 0"])

        def unlike(nodes, wires, who, back):
            other = weave_of(nodes, wires)
            self.assertEqual(self.refused(Unlike, lambda: same(old, other)).who, who)
            self.assertEqual(self.refused(Unlike, lambda: same(other, old)).who, back)
        unlike({}, [], "ia", "ia")
        unlike({"ib": Inlet(), "ob": Outlet(), "oa": Outlet()}, ["ib oa 0 0", "ib ob 0 0"], "ia", "ia")
        unlike({"ib": Inlet(), "ia": Inlet(), "oa": Outlet(), "c": Inlet()}, ["ia oa 0 0"], "ob", "c")
        unlike({"d": Outlet(), "c": Inlet(), "ib": Inlet(), "ia": Inlet(), "oa": Outlet(), "ob": Outlet()},
               ["ia oa 0 0", "ib ob 0 0", "c d 0 0"], "c", "c")
        unlike({"ib": Inlet(), "ia": Inlet(), "d": Outlet(), "oa": Outlet(), "ob": Outlet()},
               ["ia oa 0 0", "ib ob 0 0", "ia d 0 0"], "d", "d")
        unlike({"ia": Outlet(), "oa": Inlet(), "ib": Inlet(), "ob": Outlet()}, ["oa ia 0 0", "ib ob 0 0"], "ia", "oa")
