"""Fractions and responses, held against what engines tell."""

import copy
import random
import unittest

from sampleweave.engines import Engine
from sampleweave.errors import Clash, NoCount, NoInlet, NoOutlet, NotLinear, Stuck
from sampleweave.fractions import fraction, response
from sampleweave.keepers import Taps
from sampleweave.nodes import Gain, Inlet, Mix, Outlet, Own
from sampleweave.rates import Down, Resample, Up
from tests.test_rounds import Judge
from tests.test_weaves import no_names
from tests.things import HUGE, adding, makers, no_wholes
from tests.woven import chain, echo, linear, weave_of


def engine_told(weave, inlet, outlet, samples):
    """What comes out of these samples, and noughts at all other inlets, as meant."""
    engine = Engine(weave)
    for name in weave.inlets():
        engine.hand(name, samples if name == inlet else [0] * len(samples))
    return engine.take(outlet)


def single(rounds):
    return [1] + [0] * (rounds - 1) if rounds else []


def longest(weave):
    taps = [weave.node(name).numbers for name in weave.names() if isinstance(weave.node(name), Taps)]
    return 1 + sum(wire[3] for wire in weave.wires()) + sum(len(numbers) for numbers in taps)


def at(polynomial, samples, rounds):
    return sum(number * samples[rounds - k] for k, number in enumerate(polynomial) if k <= rounds)


def clashing():
    return weave_of({"in": Inlet(), "down": Down(2), "mix": Mix(2), "out": Outlet()},
                    ["in down 0 0", "down mix 0 0", "in mix 1 0", "mix out 0 0"])


class FractionJudge(Judge):
    def judge_fraction(self, weave, inlet, outlet, *streams):
        told = fraction(weave, inlet, outlet)
        self.assertIs(type(told), tuple)
        above, below = told
        for polynomial in told:
            self.assertIs(type(polynomial), list)
            self.assertTrue(all(type(number) is int for number in polynomial))
            self.assertTrue(not polynomial or polynomial[-1] != 0)
            self.assertLessEqual(len(polynomial), longest(weave))
        self.assertEqual(below[0], 1)
        for samples in streams:
            out = engine_told(weave, inlet, outlet, samples)
            for rounds in range(len(samples)):
                self.assertEqual(at(below, out, rounds), at(above, samples, rounds))
        return told

    def judge_all(self, chance, weave, rounds):
        for inlet in weave.inlets():
            for outlet in weave.outlets():
                others = [chance.randint(-50, 50) for _ in range(rounds)]
                self.judge_fraction(weave, inlet, outlet, single(rounds), others)
                self.assertEqual(response(weave, inlet, outlet, rounds),
                                 engine_told(weave, inlet, outlet, single(rounds)))


class Fractions(FractionJudge):
    def test_by_hand(self):
        self.assertEqual(fraction(chain(Gain(5)), "in", "out"), ([5], [1]))
        self.assertEqual(fraction(chain(Gain(5), delay=2), "in", "out"), ([0, 0, 0, 0, 5], [1]))
        self.assertEqual(fraction(outlet="out", weave=chain(Taps([1, 0, 3]), Mix(1)), inlet="in"), ([1, 0, 3], [1]))
        self.assertEqual(fraction(chain(Gain(0)), "in", "out")[0], [])
        self.assertEqual(fraction(chain(Taps([0, 0])), "in", "out")[0], [])
        self.assertEqual(fraction(chain(Taps([4, 0, 0])), "in", "out"), ([4], [1]))

    def test_a_ring(self):
        above, below = self.judge_fraction(echo(2, 3), "in", "out", single(20), [1, -2, 3, 5] * 5)
        self.assertEqual((above, below), ([1], [1, 0, -3]))

    def test_a_node_by_itself(self):
        weave = weave_of({"in": Inlet(), "mix": Mix(2), "out": Outlet()},
                         ["in mix 0 0", "mix mix 1 1", "mix out 0 0"])
        self.assertEqual(self.judge_fraction(weave, "in", "out", single(9)), ([1], [1, -1]))

    def test_what_does_not_feed_the_outlet(self):
        weave = weave_of({"ia": Inlet(), "ib": Inlet(), "oa": Outlet(), "ob": Outlet()}, ["ia oa 0 0", "ib ob 0 1"])
        self.assertEqual(self.judge_fraction(weave, "ia", "ob", single(5))[0], [])
        self.assertEqual(self.judge_fraction(weave, "ib", "ob", single(5)), ([0, 1], [1]))
        self.assertEqual(response(weave, "ib", "oa", 3), [0, 0, 0])

    def test_late_has_no_bearing(self):
        weave = echo(2, 3)
        late = weave.put("gain", Gain(3, late=5)).put("mix", Mix(2, late=9))
        self.assertEqual(response(late, "in", "out", 20), response(weave, "in", "out", 20))
        self.judge_fraction(late, "in", "out", single(20))

    def test_rings_of_mixes(self):
        nodes = {"in": Inlet(), "ma": Mix(3), "mb": Mix(2), "mc": Mix(2), "out": Outlet(), "other": Outlet()}
        wires = ["in ma 0 0", "mb ma 1 1", "mc ma 2 2", "ma mb 0 0", "mc mb 1 1", "mb mc 0 0", "mc mc 1 3",
                 "mc out 0 0", "ma other 0 1"]
        self.judge_all(random.Random(111), weave_of(nodes, wires), 40)

    def test_rings_one_behind_the_other(self):
        nodes, wires, ahead = {"in": Inlet()}, [], "in"
        for place in range(22):
            name = "r" + "abcdefghijklmnopqrstuv"[place]
            nodes[name] = Mix(2)
            wires += [f"{ahead} {name} 0 0", f"{name} {name} 1 {place % 5 + 1}"]
            ahead = name
        weave = weave_of({**nodes, "out": Outlet()}, wires + [f"{ahead} out 0 0"])
        self.judge_fraction(weave, "in", "out", single(60))
        self.assertEqual(response(weave, "in", "out", 60), engine_told(weave, "in", "out", single(60)))

    def test_taps_of_twelve(self):
        numbers = [3, -1, 4, -1, 5, -9, 2, -6, 5, -3, 5, 0]
        weave = echo(1).put("gain", Taps(numbers))
        self.judge_all(random.Random(112), weave, 50)
        chance = random.Random(113)
        for _ in range(10):
            self.judge_all(chance, linear(chance, inner=8, taps=12, delays=(0, 1, 2)), 40)

    def test_great_numbers(self):
        weave = echo(1, HUGE).put("mix", Mix(2))
        self.assertEqual(self.judge_fraction(weave, "in", "out", single(8), [HUGE, -HUGE, 1]), ([1], [1, -HUGE]))
        self.judge_fraction(chain(Gain(HUGE), Taps([-HUGE, HUGE]), Gain(HUGE)), "in", "out", [HUGE, 1, -HUGE])

    def test_delays_of_some_hundreds(self):
        self.judge_fraction(echo(300, 2), "in", "out", single(700))
        weave = echo(0, 2).delayed([7, 400, 300, 100])
        above, below = self.judge_fraction(weave, "in", "out", single(900))
        self.assertEqual((len(above), len(below)), (108, 701))
        weave = weave_of({"in": Inlet(), "ma": Mix(2), "mb": Mix(2), "taps": Taps(list(range(1, 13))), "out": Outlet()},
                         ["in ma 0 0", "taps ma 1 250", "ma mb 0 0", "mb mb 1 333", "mb taps 0 180", "mb out 0 0"])
        self.judge_fraction(weave, "in", "out", single(1100))
        self.assertEqual(response(weave, "in", "out", 400), engine_told(weave, "in", "out", single(400)))

    def test_by_chance(self):
        chance = random.Random(114)
        for _ in range(150):
            self.judge_all(chance, linear(chance, lates=(0, 0, 1, 4)), 25)

    def test_greater_ones_by_chance(self):
        chance = random.Random(115)
        for _ in range(25):
            self.judge_all(chance, linear(chance, inner=18, ends=3), 25)
        for _ in range(10):
            weave = linear(chance, inner=14, delays=(0, 1, 150, 200))
            for inlet in weave.inlets():
                for outlet in weave.outlets():
                    self.judge_fraction(weave, inlet, outlet, single(250))


class Responses(FractionJudge):
    def test_rounds(self):
        weave = echo(1, 2)
        self.assertEqual(response(weave, "in", "out", 0), [])
        self.assertEqual(response(weave, "in", "out", 1), [1])
        self.assertEqual(response(rounds=5, outlet="out", inlet="in", weave=weave), [1, 2, 4, 8, 16])
        self.assertEqual(response(weave, "in", "out", 400), engine_told(weave, "in", "out", single(400)))
        self.assertEqual(response(chain(Taps([1, 2]), delay=1), "in", "out", 5), [0, 0, 1, 2, 0])

    def test_its_beginning_stays(self):
        chance = random.Random(116)
        for _ in range(30):
            weave = linear(chance)
            inlet, outlet = weave.inlets()[0], weave.outlets()[0]
            told = response(weave, inlet, outlet, 60)
            for rounds in (0, 1, 7, 59):
                self.assertEqual(response(weave, inlet, outlet, rounds), told[:rounds])

    def test_no_count(self):
        for thing in no_wholes() + [-1, 401, HUGE, -HUGE]:
            self.refused(NoCount, lambda: response(echo(), "in", "out", thing))


class Refused(FractionJudge):
    def ask_both(self, weave, inlet="in", outlet="out"):
        return (lambda: fraction(weave, inlet, outlet), lambda: response(weave, inlet, outlet, None))

    def test_clash_and_stuck(self):
        for ask in self.ask_both(clashing(), None, None):
            self.judge_walk(clashing(), self.refused(Clash, ask).walk)
        stuck = echo(0).put("gain", Own(adding))
        for ask in self.ask_both(stuck, None, None):
            self.assertEqual(sorted(self.refused(Stuck, ask).ring), [1, 2])

    def test_stuck_as_meant_though_not_as_run(self):
        for ask in self.ask_both(echo(0).put("gain", Gain(1, late=5))):
            self.refused(Stuck, ask)

    def test_not_linear(self):
        for sort, make in makers():
            node = make()
            inlets = ["ia", "ib", "ic"][:len(node.takes())]
            nodes = {"in": Inlet(), "first": Gain(1), "node": node, "then": Gain(1, begin=1), "out": Outlet()}
            wires = ["in first 0 0", "in then 0 0", "first out 0 0"]
            weave = weave_of({**nodes, **{name: Inlet() for name in inlets}},
                             wires + [f"{name} node {place} 0" for place, name in enumerate(inlets)])
            who = "then" if sort in ("Gain", "Mix", "Taps") else "node"
            for ask in self.ask_both(weave, None, None):
                self.assertEqual(self.refused(NotLinear, ask).who, who)

    def test_sorts_of_one_rate_are_none_either(self):
        for node in (Up(1), Down(1), Resample(1, 1, [1])):
            for ask in self.ask_both(chain(Gain(1), node)):
                self.assertEqual(self.refused(NotLinear, ask).who, "b")

    def test_what_begins_later(self):
        for node in (Gain(1, begin=1), Mix(1, begin=3), Taps([1], begin=9999)):
            for ask in self.ask_both(chain(Gain(1), node), "x", "y"):
                self.assertEqual(self.refused(NotLinear, ask).who, "b")

    def test_nodes_that_do_not_matter_for_the_outlet(self):
        weave = weave_of({"in": Inlet(), "own": Own(adding), "out": Outlet()}, ["in own 0 0", "in out 0 0"])
        for ask in self.ask_both(weave):
            self.assertEqual(self.refused(NotLinear, ask).who, "own")

    def test_no_inlet_and_no_outlet(self):
        for thing in no_names() + ["mix", "x"]:
            for ask in self.ask_both(echo(), thing, None):
                self.refused(NoInlet, ask, who=thing)
            for ask in self.ask_both(echo(), "in", thing):
                self.refused(NoOutlet, ask, who=thing)
        for ask in self.ask_both(echo(), "out", "in"):
            self.refused(NoInlet, ask, who="out")
        for ask in self.ask_both(echo(), "in", "in"):
            self.refused(NoOutlet, ask, who="in")


class Lists(unittest.TestCase):
    def test_told_lists_changed(self):
        weave = weave_of({"in": Inlet(), "taps": Taps([1, 2]), "out": Outlet(), "straight": Outlet()},
                         ["in taps 0 0", "taps out 0 0", "in straight 0 0"])
        kept = copy.deepcopy(weave)
        for outlet in ("out", "straight"):
            above, below = fraction(weave, "in", outlet)
            expected = (list(above), list(below))
            above.append(5)
            self.assertEqual(below, expected[1])
            below.clear()
            self.assertEqual(fraction(weave, "in", outlet), expected)
        response(weave, "in", "out", 3).append(4)
        self.assertEqual(response(weave, "in", "out", 3), [1, 2, 0])
        self.assertEqual(weave, kept)
