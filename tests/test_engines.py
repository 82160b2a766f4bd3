import random
import unittest

from sampleweave.engines import Engine
from sampleweave.errors import Clash, NoInlet, NoOutlet, NoSample, NoWire, Stuck, Unknown
from sampleweave.keepers import Taps
from sampleweave.liveness import live
from sampleweave.nodes import Gain, Inlet, Mix, Outlet, Times
from sampleweave.rates import Down, Up
from sampleweave.rounds import counts, first_queues
from sampleweave.weaves import Weave
from tests.test_rounds import Judge
from tests.test_weaves import no_names
from tests.things import HUGE, no_wholes
from tests.woven import Streams, chain, echo, leads_on, many_weaves, weave_of


def live_weaves(seed, many, lates=False):
    """Of so many weaves by chance those that have counts and are live."""
    return [weave for weave in many_weaves(seed, many, lates=(0, 0, 1, 2))
            if counts(weave)[0] == "counts" and live(weave, lates=lates)[0] == "live"]


def streams_for(chance, weave, rounds):
    """For each inlet the samples that so many rounds take, by chance."""
    shares = dict(counts(weave)[1])
    return {name: [chance.randint(-20, 20) for _ in range(shares[name] * rounds)] for name in weave.inlets()}


def no_samples():
    wrong = [thing for thing in no_wholes() if not isinstance(thing, list)] + [0, 5, (1, 2), "12", {1: 2}]
    return wrong + [pair for thing in no_wholes() for pair in ([thing], [1, thing], [thing, 1], [1, thing, 2])]


def two_in():
    """Two inlets of unlike counts, and two outlets."""
    return weave_of({"ia": Inlet(), "ib": Inlet(), "down": Down(2), "mix": Mix(2), "oa": Outlet(), "ob": Outlet()},
                    ["ia down 0 0", "down mix 0 0", "ib mix 1 1", "mix oa 0 0", "ia ob 0 3"])


class Rounds(unittest.TestCase):
    def test_a_gain_and_delays(self):
        engine = Engine(chain(Gain(3), delay=1))
        self.assertEqual(engine.hand("in", [1, 2, 3, 4]), 4)
        self.assertEqual(engine.take("out"), [0, 0, 3, 6])
        self.assertEqual(engine.rounds(), 4)
        self.assertEqual((engine.waiting(0), engine.waiting(1)), ([4], [9]))

    def test_a_ring(self):
        engine = Engine(echo(2, 10))
        self.assertEqual(engine.hand(samples=[1, 2, 0, 0, 0], name="in"), 5)
        self.assertEqual(engine.take(name="out"), [1, 2, 10, 20, 100])
        self.assertEqual(engine.waiting(number=2), [200 // 10, 100])

    def test_counts_above_one(self):
        engine = Engine(chain(Up(3, True), Down(2)))
        self.assertEqual(engine.hand("in", [1]), 0)
        self.assertEqual((engine.left("in"), engine.take("out")), ([1], []))
        self.assertEqual(engine.hand("in", [2, 3, 4, 5]), 2)
        self.assertEqual(engine.left(name="in"), [5])
        self.assertEqual(engine.take("out"), [1, 1, 2, 3, 3, 4])
        self.assertEqual(engine.rounds(), 2)

    def test_several_inlets_and_outlets(self):
        engine = Engine(two_in())
        self.assertEqual(engine.hand("ia", [1, 2, 3, 4, 5, 6, 7]), 0)
        self.assertEqual((engine.left("ia"), engine.left("ib")), ([1, 2, 3, 4, 5, 6, 7], []))
        self.assertEqual(engine.hand("ib", [10]), 1)
        self.assertEqual((engine.take("oa"), engine.take("ob")), ([1], [0, 0]))
        self.assertEqual(engine.hand("ib", [20, 30, 40]), 2)
        self.assertEqual((engine.left("ia"), engine.left("ib")), ([7], [40]))
        self.assertEqual((engine.take("oa"), engine.take("ob")), ([13, 25], [0, 1, 2, 3]))
        self.assertEqual(engine.hand("ia", [8]), 1)
        self.assertEqual(engine.take("oa"), [37])

    def test_take_empties(self):
        engine = Engine(chain(Gain(1)))
        engine.hand("in", [1, 2])
        self.assertEqual((engine.take("out"), engine.take("out")), ([1, 2], []))
        engine.hand("in", [3])
        engine.hand("in", [4])
        self.assertEqual((engine.take("out"), engine.take("out")), ([3, 4], []))

    def test_no_samples_at_all(self):
        engine = Engine(chain(Gain(1)))
        self.assertEqual((engine.hand("in", []), engine.settle(), engine.rounds()), (0, 0, 0))
        self.assertEqual((engine.take("out"), engine.left("in"), engine.log()), ([], [], []))

    def test_without_inlets(self):
        engine = Engine(Weave([], []))
        self.assertEqual((engine.settle(), engine.rounds(), engine.log()), (0, 0, []))
        self.assertEqual(engine.weave(), Weave([], []))
        with self.assertRaises(NoInlet):
            engine.hand("in", [1])
        self.assertEqual(engine.twin().settle(), 0)

    def test_inlets_alone(self):
        engine = Engine(weave_of({"a": Inlet(), "b": Inlet()}, []))
        self.assertEqual((engine.hand("a", [1, 2]), engine.hand("b", [3])), (0, 1))
        self.assertEqual((engine.left("a"), engine.left("b"), engine.rounds()), ([2], [], 1))

    def test_several_pieces_wait_for_each_other(self):
        weave = weave_of({"ia": Inlet(), "oa": Outlet(), "ib": Inlet(), "ob": Outlet()}, ["ia oa 0 0", "ib ob 0 0"])
        engine = Engine(weave)
        self.assertEqual((engine.hand("ia", [1, 2]), engine.take("oa")), (0, []))
        self.assertEqual((engine.hand("ib", [3]), engine.take("oa"), engine.take("ob")), (1, [1], [3]))

    def test_at_first(self):
        for lates in (False, True):
            for weave in live_weaves(41, 40, lates):
                engine = Engine(weave, lates=lates)
                for number, many in enumerate(first_queues(weave, lates=lates)):
                    self.assertEqual(engine.waiting(number), [0] * many)
                for name in weave.names():
                    if name not in weave.inlets() + weave.outlets():
                        self.assertEqual(engine.memory(name), weave.node(name).fresh())
                self.assertEqual([engine.left(name) for name in weave.inlets()], [[]] * len(weave.inlets()))
                self.assertEqual([engine.take(name) for name in weave.outlets()], [[]] * len(weave.outlets()))
                self.assertEqual((engine.rounds(), engine.log(), engine.weave()), (0, [], weave))

    def test_as_run(self):
        weave = chain(Gain(2, late=2), delay=1)
        self.assertEqual(Engine(weave).hand("in", [1] * 5), 5)
        engine = Engine(lates=True, weave=weave)
        engine.hand("in", [1, 2, 3, 4, 5])
        self.assertEqual(engine.take("out"), [0, 0, 0, 0, 2])

    def test_large_samples(self):
        engine = Engine(chain(Gain(HUGE)))
        engine.hand("in", [HUGE, -HUGE])
        self.assertEqual(engine.take("out"), [HUGE * HUGE, -HUGE * HUGE])


class Promise(unittest.TestCase):
    """Whatever the pieces, the same comes out, and it is what the firings tell by themselves."""

    def check(self, weave, engine, handed, rounds, lates):
        shares = dict(counts(weave)[1])
        streams = Streams(weave, handed, lates)
        self.assertEqual(engine.rounds(), rounds)
        for name in weave.outlets():
            self.assertEqual(engine.take(name), streams.came(name, shares[name] * rounds))
        for number, (source, goal, place, delay) in enumerate(weave.wires()):
            waits = streams.waiting(number, shares[source] * rounds, shares[goal] * rounds)
            self.assertEqual(engine.waiting(number), waits)
        for name in weave.names():
            if name not in weave.inlets() + weave.outlets():
                self.assertEqual(engine.memory(name), streams.fired(name, shares[name] * rounds - 1)[0])

    def test_in_whatever_pieces(self):
        chance = random.Random(42)
        for lates in (False, True):
            for weave in live_weaves(43, 120, lates):
                handed = streams_for(chance, weave, 7)
                engine = Engine(weave, lates=lates)
                at = {name: 0 for name in handed}
                told = 0
                while any(at[name] < len(handed[name]) for name in handed):
                    name = chance.choice(list(handed))
                    many = chance.randint(0, 5)
                    told += engine.hand(name, handed[name][at[name]:at[name] + many])
                    at[name] += many
                self.assertEqual(told, 7)
                self.check(weave, engine, handed, 7, lates)

    def test_one_inlet_behind_the_other(self):
        chance = random.Random(44)
        for weave in live_weaves(45, 80):
            handed = streams_for(chance, weave, 5)
            engine = Engine(weave)
            told = [engine.hand(name, handed[name]) for name in reversed(list(handed))]
            self.assertEqual(told, [0] * (len(handed) - 1) + [5])
            self.check(weave, engine, handed, 5, False)


class Kept(unittest.TestCase):
    def test_keep(self):
        gain = Gain(2)
        engine = Engine(chain(gain))
        self.assertEqual(gain.factor(engine.memory("a")), 2)
        self.assertIsNone(engine.keep("a", gain.turned(engine.memory("a"), 10, 2)))
        engine.hand("in", [1, 1, 1])
        self.assertEqual(engine.take("out"), [6, 10, 10])
        self.assertEqual(gain.factor(engine.memory(name="a")), 10)
        engine.keep(memory=gain.fresh(), name="a")
        engine.hand("in", [1])
        self.assertEqual(engine.take("out"), [2])

    def test_an_elder_memory_and_that_of_another_engine(self):
        one, other = Engine(chain(Taps([1, 10]))), Engine(chain(Taps([1, 10])))
        one.hand("in", [5])
        other.keep("a", one.memory("a"))
        other.hand("in", [1])
        self.assertEqual(other.take("out"), [51])
        one.hand("in", [1])
        self.assertEqual(one.take("out"), [5, 51])

    def test_it_runs_nothing(self):
        engine = Engine(chain(Gain(2), Taps([1])))
        engine.keep("b", engine.memory("b"))
        self.assertEqual((engine.rounds(), engine.log(), engine.take("out")), (0, [], []))


class Refused(Judge):
    def test_clash(self):
        clashed = 0
        for weave in many_weaves(46, 80):
            if counts(weave)[0] == "clash":
                clashed += 1
                with self.assertRaises(Clash) as caught:
                    Engine(weave)
                self.judge_walk(weave, caught.exception.walk)
        self.assertGreater(clashed, 3)

    def test_stuck(self):
        for weave in (echo(0), weave_of({"in": Inlet(), "mix": Mix(2)}, ["in mix 0 0", "mix mix 1 0"])):
            with self.assertRaises(Stuck) as caught:
                Engine(weave)
            error = caught.exception
            self.assertEqual(("stuck", error.fired, error.ring), live(weave))
            self.assertTrue(leads_on(weave, error.ring))
            error.fired.clear()
            error.ring.clear()
            self.assertNotEqual(live(weave)[1:], ([], []))

    def test_stuck_as_meant_but_not_as_run(self):
        weave = echo(0).put("gain", Gain(2, late=1))
        self.refused(Stuck, lambda: Engine(weave))
        self.refused(Stuck, lambda: Engine(weave, lates=False))
        self.assertEqual(Engine(weave, lates=True).hand("in", [1]), 1)

    def test_by_name_alone(self):
        self.refused(TypeError, lambda: Engine(echo(), True))

    def test_no_inlet(self):
        engine = Engine(echo())
        for thing in no_names() + ["out", "mix", "x"]:
            self.refused(NoInlet, lambda: engine.hand(thing, [1]), who=thing)
            self.refused(NoInlet, lambda: engine.hand(thing, None), who=thing)
            self.refused(NoInlet, lambda: engine.left(thing), who=thing)
        self.assertEqual((engine.rounds(), engine.log()), (0, []))

    def test_no_sample(self):
        engine = Engine(echo())
        for thing in no_samples():
            self.refused(NoSample, lambda: engine.hand("in", thing))
        self.assertEqual((engine.left("in"), engine.rounds(), engine.log()), ([], 0, []))

    def test_no_outlet(self):
        engine = Engine(echo())
        engine.hand("in", [1])
        for thing in no_names() + ["in", "mix", "x"]:
            self.refused(NoOutlet, lambda: engine.take(thing), who=thing)
        self.assertEqual(engine.take("out"), [1])

    def test_unknown(self):
        engine = Engine(echo())
        for thing in no_names() + ["in", "out", "x"]:
            self.refused(Unknown, lambda: engine.memory(thing), who=thing)
            self.refused(Unknown, lambda: engine.keep(thing, None), who=thing)

    def test_no_wire(self):
        engine = Engine(echo())
        for thing in [-1, 4, HUGE, -HUGE] + no_wholes():
            self.refused(NoWire, lambda: engine.waiting(thing))
        self.refused(NoWire, lambda: Engine(Weave([], [])).waiting(0))


class Lists(unittest.TestCase):
    def test_told_lists_changed(self):
        engine = Engine(two_in())
        engine.hand("ia", [1, 2, 3])
        engine.hand("ib", [4])
        other = engine.twin()
        for ask in (lambda: engine.left("ia"), lambda: engine.waiting(4), engine.log):
            kept = list(ask())
            self.assertNotEqual(kept, [])
            ask().clear()
            self.assertEqual(ask(), kept)
            ask().append(5)
            self.assertEqual(ask(), kept)
        told = engine.take("oa")
        told.append(5)
        self.assertEqual(engine.take("oa"), [])
        self.assertEqual(other.take("oa"), [1])
        engine.hand("ia", [9])
        engine.hand("ib", [9])
        self.assertEqual(engine.take("oa"), [7])

    def test_handed_lists_changed(self):
        engine = Engine(two_in())
        samples = [1, 2, 3]
        engine.hand("ia", samples)
        samples[0] = 50
        samples.append(6)
        self.assertEqual(engine.left("ia"), [1, 2, 3])
        engine.hand("ib", [0])
        self.assertEqual(engine.take("oa"), [1])
        self.assertEqual(samples, [50, 2, 3, 6])

    def test_lists_of_the_weave_changed(self):
        nodes = [("in", Inlet()), ("a", Gain(2)), ("out", Outlet())]
        wires = [("in", "a", 0, 0), ("a", "out", 0, 1)]
        weave = Weave(nodes, wires)
        engine = Engine(weave)
        nodes.clear()
        wires.clear()
        engine.weave().wires().clear()
        engine.hand("in", [1, 2])
        self.assertEqual(engine.take("out"), [0, 2])
        self.assertEqual(engine.weave(), weave)

    def test_engines_do_not_know_of_each_other(self):
        weave = echo()
        one, other = Engine(weave), Engine(weave)
        one.hand("in", [1, 1])
        self.assertEqual((other.rounds(), other.take("out"), other.waiting(2)), (0, [], [0]))
        other.hand("in", [5])
        self.assertEqual((one.take("out"), other.take("out")), ([1, 3], [5]))


class Logged(unittest.TestCase):
    def test_calls_by_which_a_round_is_begun(self):
        engine = Engine(chain(Down(2)))
        engine.hand("in", [1])
        engine.settle()
        self.assertEqual(engine.log(), [])
        engine.hand("in", [1, 1, 1, 1])
        engine.hand("in", [])
        engine.hand("in", [1])
        engine.settle()
        with self.assertRaises(NoInlet):
            engine.hand("out", [1])
        self.assertEqual(engine.log(), [("begin", 0), ("end", 2), ("begin", 2), ("end", 3)])
