"""Consoles: turned gains and fades, held against engines that are run side by side."""

import copy
import random
import unittest

from sampleweave.consoles import OVER, Console
from sampleweave.engines import Engine
from sampleweave.errors import Busy, Clash, Fading, NoGain, NoInlet, NoOutlet, NoSample, NoSteps, Spoilt, Stuck
from sampleweave.errors import Unknown, Unlike
from sampleweave.keepers import Count, Taps
from sampleweave.liveness import live
from sampleweave.nodes import Gain, Inlet, Mix, Outlet, Own
from sampleweave.ramps import ramp
from sampleweave.rates import Down, Up
from sampleweave.rounds import counts
from sampleweave.weaves import Weave
from tests.test_deeds import Moody
from tests.test_engines import live_weaves, no_samples, streams_for, two_in
from tests.test_rounds import Judge
from tests.test_weaves import no_names
from tests.things import HUGE, no_wholes
from tests.woven import chain, echo, many_weaves, weave_of


def handed(console, samples):
    console.hand("in", samples)
    return console.take("out")


class Model:
    """A console told otherwise: all rounds of each weave by an engine of its own, mixed sample by sample."""

    def __init__(self, weave, lates):
        self.lates = lates
        self.engine, self.elder = Engine(weave, lates=lates), None
        self.shares = dict(counts(weave)[1])
        self.over = self.done = 0
        self.out = {name: [] for name in weave.outlets()}

    def turn(self, name, by, over):
        self.engine.keep(name, self.engine.weave().node(name).turned(self.engine.memory(name), by, over))

    def fade(self, weave, over):
        self.elder = self.engine if over else None
        self.engine, self.over, self.done = Engine(weave, lates=self.lates), over, 0

    def round(self, pieces):
        for engine in [self.engine] + ([self.elder] if self.elder else []):
            for name in pieces:
                engine.hand(name, pieces[name])
        for name in self.out:
            news = self.engine.take(name)
            if self.elder:
                many = self.over * self.shares[name]
                ahead = self.done * self.shares[name]
                news = [old + ((new - old) * (ahead + k)) // many
                        for k, (old, new) in enumerate(zip(self.elder.take(name), news), 1)]
            self.out[name] += news
        if self.elder:
            self.done += 1
            self.elder = self.elder if self.done < self.over else None


class Plain(unittest.TestCase):
    """A console that is never changed is an engine."""

    def test_over(self):
        self.assertEqual(OVER, 16)

    def test_by_hand(self):
        console = Console(echo(2, 10))
        self.assertEqual(console.hand("in", [1, 2, 0]), 3)
        self.assertEqual(console.hand(samples=[0, 0], name="in"), 2)
        self.assertEqual((console.take(name="out"), console.take("out")), ([1, 2, 10, 20, 100], []))
        self.assertEqual((console.rounds(), console.fading(), console.settle()), (5, 0, 0))
        self.assertEqual(console.log(), [("begin", 0), ("end", 3), ("begin", 3), ("end", 5)])
        self.assertEqual((console.weave(), console.left(name="in")), (echo(2, 10), []))

    def test_as_run(self):
        weave = chain(Gain(2, late=2))
        self.assertEqual(handed(Console(weave), [1, 2, 3]), [2, 4, 6])
        self.assertEqual(handed(Console(lates=True, weave=weave), [1, 2, 3]), [0, 0, 2])

    def test_what_waits(self):
        console = Console(two_in())
        self.assertEqual(console.hand("ia", [1, 2, 3]), 0)
        self.assertEqual((console.left("ia"), console.left("ib"), console.log()), ([1, 2, 3], [], []))
        self.assertEqual(console.hand("ib", [5, 6]), 1)
        self.assertEqual((console.left("ia"), console.left("ib")), ([3], [6]))

    def test_without_nodes(self):
        console = Console(Weave([], []))
        self.assertEqual((console.settle(), console.rounds(), console.log()), (0, 0, []))
        console.fade(Weave([], []), over=0)
        self.assertEqual(console.fading(), 0)

    def test_as_an_engine(self):
        chance = random.Random(101)
        for lates in (False, True):
            for weave in live_weaves(102, 80, lates):
                streams = streams_for(chance, weave, 5)
                console, engine = Console(weave, lates=lates), Engine(weave, lates=lates)
                for name in streams:
                    self.assertEqual(console.hand(name, streams[name]), engine.hand(name, streams[name]))
                self.assertEqual(console.log(), engine.log())
                for name in weave.outlets():
                    self.assertEqual(console.take(name), engine.take(name))


class Turned(unittest.TestCase):
    def test_over_0_1_and_more_steps(self):
        console = Console(chain(Gain(2)))
        self.assertIsNone(console.turn("a", 10, over=4))
        self.assertEqual(console.factor("a"), 2)
        self.assertEqual(handed(console, [1] * 6), [4, 6, 8, 10, 10, 10])
        self.assertEqual(console.factor(name="a"), 10)
        console.turn(by=-5, name="a", over=0)
        self.assertEqual((console.factor("a"), handed(console, [1, 1])), (-5, [-5, -5]))
        console.turn("a", 7, over=1)
        self.assertEqual((console.factor("a"), handed(console, [1, 1])), (-5, [7, 7]))
        self.assertEqual(console.factor("a"), 7)

    def test_over_what_is_told_where_nothing_is_told(self):
        console = Console(chain(Gain(0)))
        console.turn("a", 100)
        self.assertEqual(handed(console, [1] * 18), ramp(0, 100, OVER) + [100, 100])

    def test_over_400_steps(self):
        console = Console(chain(Gain(-3)))
        console.turn("a", HUGE, over=400)
        self.assertEqual(handed(console, [1] * 401), ramp(-3, HUGE, 400) + [HUGE])

    def test_in_the_midst_of_a_turn(self):
        console = Console(chain(Gain(0)))
        console.turn("a", 10, over=10)
        self.assertEqual(handed(console, [1] * 3), [1, 2, 3])
        console.turn("a", 0, over=3)
        self.assertEqual(handed(console, [1] * 4), [2, 1, 0, 0])
        console.turn("a", 8, over=2)
        console.turn("a", 6, over=2)
        self.assertEqual(handed(console, [1] * 3), [3, 6, 6])

    def test_while_it_is_mute(self):
        console = Console(chain(Gain(2, begin=3)))
        console.turn("a", 8, over=3)
        self.assertEqual((handed(console, [1] * 2), console.factor("a")), ([0, 0], 2))
        self.assertEqual(handed(console, [1] * 5), [0, 4, 6, 8, 8])
        console = Console(chain(Gain(2, begin=1)))
        console.turn("a", 8, over=0)
        self.assertEqual((console.factor("a"), handed(console, [1] * 2)), (8, [0, 8]))

    def test_each_firing_is_a_step(self):
        console = Console(chain(Up(3, True), Gain(0), Down(2)))
        console.turn("b", 6, over=6)
        self.assertEqual(handed(console, [1] * 4), [1, 3, 5, 6, 6, 6])

    def test_it_runs_no_rounds(self):
        console = Console(chain(Gain(1)))
        console.turn("a", 3)
        self.assertEqual((console.rounds(), console.log(), console.take("out"), console.fading()), (0, [], [], 0))

    def test_one_gain_of_several(self):
        weave = weave_of({"in": Inlet(), "ga": Gain(1), "gb": Gain(1), "oa": Outlet(), "ob": Outlet()},
                         ["in ga 0 0", "in gb 0 0", "ga oa 0 0", "gb ob 0 0"])
        console = Console(weave)
        console.turn("gb", 5, over=2)
        console.hand("in", [1, 1, 1])
        self.assertEqual((console.take("oa"), console.take("ob")), ([1, 1, 1], [3, 5, 5]))
        self.assertEqual((console.factor("ga"), console.factor("gb")), (1, 5))


class Faded(unittest.TestCase):
    def test_over_0_rounds(self):
        console = Console(chain(Taps([1, 1])))
        self.assertEqual(handed(console, [5, 5]), [5, 10])
        self.assertIsNone(console.fade(chain(Taps([1, 10])), over=0))
        self.assertEqual((console.fading(), console.weave()), (0, chain(Taps([1, 10]))))
        self.assertEqual(handed(console, [1, 1]), [1, 11])

    def test_over_one_round(self):
        console = Console(chain(Gain(1)))
        console.fade(chain(Gain(9)), over=1)
        self.assertEqual(console.fading(), 1)
        self.assertEqual((handed(console, [1]), console.fading(), handed(console, [1])), ([9], 0, [9]))

    def test_over_four_rounds(self):
        console = Console(chain(Gain(0)))
        console.fade(over=4, weave=chain(Gain(10)))
        self.assertEqual(handed(console, [1, 1]), [2, 5])
        self.assertEqual(console.fading(), 2)
        self.assertEqual(handed(console, [-1, 1, 1]), [-8, 10, 10])
        self.assertEqual(console.fading(), 0)

    def test_over_what_is_told_where_nothing_is_told(self):
        console = Console(chain(Gain(0)))
        console.fade(chain(Gain(100)))
        self.assertEqual(console.fading(), OVER)
        self.assertEqual(handed(console, [1] * 18), ramp(0, 100, OVER) + [100, 100])

    def test_over_400_rounds(self):
        console = Console(chain(Gain(-HUGE)))
        console.fade(chain(Gain(HUGE)), over=400)
        self.assertEqual(handed(console, [1] * 401), ramp(-HUGE, HUGE, 400) + [HUGE])

    def test_counts_above_one_and_several_outlets(self):
        old = weave_of({"in": Inlet(), "up": Up(3, True), "oa": Outlet(), "ob": Outlet()},
                       ["in up 0 0", "up oa 0 0", "in ob 0 0"])
        new = weave_of({"ob": Outlet(), "up": Up(3), "oa": Outlet(), "in": Inlet(), "gain": Gain(7)},
                       ["in gain 0 0", "gain up 0 0", "up oa 0 0", "in ob 0 1"])
        console = Console(old)
        console.fade(new, over=2)
        console.hand("in", [6, 6, 6])
        news = [42, 0, 0, 42, 0, 0]
        self.assertEqual(console.take("oa"), [6 + (news[k] - 6) * (k + 1) // 6 for k in range(6)] + [42, 0, 0])
        self.assertEqual(console.take("ob"), [3, 6, 6])

    def test_it_begins_fresh_and_the_old_one_goes_on(self):
        old, new = chain(Count(100)), chain(Count(0))
        console = Console(old)
        self.assertEqual(handed(console, [0] * 4), [100, 101, 102, 103])
        console.fade(new, over=4)
        self.assertEqual(handed(console, [0] * 6),
                         [old + (new - old) * k // 4 for old, new, k in zip(range(104, 108), range(4), range(1, 5))]
                         + [4, 5])

    def test_what_waits_waits_for_both(self):
        old = two_in()
        new = old.put("mix", Mix(2)).delayed([0, 0, 0, 0, 0])
        console = Console(old)
        console.hand("ia", [1, 2, 3, 4, 5])
        console.fade(new, over=2)
        self.assertEqual((console.left("ia"), console.left("ib")), ([1, 2, 3, 4, 5], []))
        self.assertEqual(console.hand("ib", [10, 20]), 2)
        self.assertEqual(console.take("oa"), [1 + 10 // 2, 23])
        self.assertEqual((console.left("ia"), console.take("ob")), ([5], [0, 1, 2, 4]))

    def test_what_has_come_out_stays(self):
        console = Console(chain(Gain(1)))
        console.hand("in", [1, 2])
        console.fade(chain(Gain(5)), over=0)
        console.hand("in", [3])
        self.assertEqual(console.take("out"), [1, 2, 15])

    def test_rounds_and_log_are_counted_on(self):
        console = Console(chain(Gain(1)))
        console.hand("in", [1, 2])
        console.fade(chain(Gain(5)), over=3)
        self.assertEqual((console.rounds(), console.log()), (2, [("begin", 0), ("end", 2)]))
        console.hand("in", [1, 2])
        self.assertEqual((console.rounds(), console.fading()), (4, 1))
        console.hand("in", [1, 2])
        self.assertEqual(console.log(), [("begin", 0), ("end", 2), ("begin", 2), ("end", 4), ("begin", 4), ("end", 6)])
        console.fade(chain(Gain(6)), over=0)
        self.assertEqual((console.hand("in", [1]), console.rounds(), len(console.log())), (1, 7, 8))

    def test_to_the_weave_itself_with_a_gain_put_otherwise(self):
        console = Console(echo(1, 2))
        console.fade(console.weave().put("gain", Gain(3)), over=2)
        self.assertEqual(handed(console, [1, 0, 0, 0]), [1, 3, 9, 27])
        console.fade(echo(1, 0), over=2)
        self.assertEqual(handed(console, [1, 1, 1]), [82 + (1 - 82) // 2, 1, 1])

    def test_gains_turned_in_the_midst_of_a_fade_are_the_new_weaves(self):
        console = Console(chain(Gain(0)))
        console.turn("a", 10, over=10)
        handed(console, [1, 1])
        console.fade(chain(Gain(100)), over=4)
        self.assertEqual(console.factor("a"), 100)
        console.turn("a", 200, over=2)
        olds, news = [3, 4, 5, 6], [150, 200, 200, 200]
        self.assertEqual(handed(console, [1] * 5),
                         [old + (new - old) * k // 4 for k, (old, new) in enumerate(zip(olds, news), 1)] + [200])

    def test_names_that_only_the_old_one_has(self):
        console = Console(chain(Gain(1), Gain(2)))
        console.fade(chain(Gain(5)), over=3)
        for ask in (lambda: console.turn("b", 3), lambda: console.factor("b")):
            with self.assertRaises(Unknown) as caught:
                ask()
            self.assertEqual(caught.exception.who, "b")
        self.assertEqual((console.weave(), console.factor("a")), (chain(Gain(5)), 5))

    def test_as_run(self):
        console = Console(chain(Gain(1, late=1)), lates=True)
        console.fade(chain(Gain(100, late=2)), over=2)
        self.assertEqual(handed(console, [4, 4, 4, 4]), [0, 0, 400, 400])
        stuck = echo(0).put("gain", Gain(1, late=1))
        Console(echo(1), lates=True).fade(stuck)
        with self.assertRaises(Stuck):
            Console(echo(1)).fade(stuck)

    def test_steps_of_a_fade(self):
        """Point 25: what lies between the two, and how far it goes at once."""
        chance = random.Random(103)
        for _ in range(60):
            over, many = chance.randint(1, 12), chance.randint(1, 3)
            olds, news = [[chance.randint(-60, 60) for _ in range(over)] for _ in range(2)]
            old, new = chain(Gain(1), Up(many, True)), chain(Own(lambda memory, rows: (memory + 1, [news[memory]])),
                                                             Up(many, True))
            console = Console(old)
            console.fade(new, over=over)
            told = handed(console, olds)
            olds, news, m = [[x for x in row for _ in range(many)] for row in (olds, news)] + [over * many]
            self.assertEqual(told[-1], news[-1])
            for at in range(m):
                self.assertTrue(min(olds[at], news[at]) <= told[at] <= max(olds[at], news[at]))
            for at in range(m - 1):
                steps = max(abs(olds[at + 1] - olds[at]), abs(news[at + 1] - news[at]))
                self.assertLessEqual(abs(told[at + 1] - told[at]), steps + abs(news[at] - olds[at]) // m + 1)


class Pieces(unittest.TestCase):
    """Turns and fades by chance, between rounds by chance, in pieces by chance: always as engines side by side."""

    def others(self, chance, weave):
        """A weave with the same inlets and outlets."""
        for name in weave.names():
            node = weave.node(name)
            if isinstance(node, Gain):
                weave = weave.put(name, Gain(chance.randint(-3, 3), late=node.late()))
        return weave.delayed([wire[3] + chance.choice([0, 0, 1]) for wire in weave.wires()])

    def change(self, chance, console, model, gains):
        if chance.random() < 0.5 and console.fading() == 0:
            other, over = self.others(chance, console.weave()), chance.choice([0, 1, 2, 3, 5])
            console.fade(other, over=over)
            model.fade(other, over)
        elif gains:
            name, by, over = chance.choice(gains), chance.randint(-9, 9), chance.randint(0, 6)
            console.turn(name, by, over=over)
            model.turn(name, by, over)

    def hand_by_chance(self, chance, console, pieces):
        rest = {name: list(pieces[name]) for name in pieces}
        told = 0
        while any(rest.values()):
            name = chance.choice([name for name in rest if rest[name]])
            many = chance.randint(1, len(rest[name]))
            told += console.hand(name, rest[name][:many])
            rest[name] = rest[name][many:]
        self.assertEqual(told, 1)

    def test_by_chance(self):
        chance = random.Random(104)
        for lates in (False, True):
            for weave in live_weaves(105, 100, lates):
                console, model = Console(weave, lates=lates), Model(weave, lates)
                gains = [name for name in weave.names() if isinstance(weave.node(name), Gain)]
                streams = streams_for(chance, weave, 12)
                for at in range(12):
                    pieces = {name: streams[name][at * model.shares[name]:(at + 1) * model.shares[name]]
                              for name in streams}
                    if chance.random() < 0.5:
                        self.change(chance, console, model, gains)
                    self.hand_by_chance(chance, console, pieces)
                    model.round(pieces)
                    for name in gains:
                        node = console.weave().node(name)
                        self.assertEqual(console.factor(name), node.factor(model.engine.memory(name)))
                self.assertEqual(console.rounds(), 12)
                self.assertEqual({name: console.take(name) for name in weave.outlets()}, model.out)

    def test_the_same_in_whatever_pieces(self):
        old = chain(Taps([1, 2, 3]), Gain(2), Up(2))
        new = chain(Taps([3, 2, 1]), Gain(5), Up(2, True))
        streams = list(range(1, 21))
        expected = None
        for size in (1, 2, 3, 7, 20):
            console, told = Console(old), []
            console.fade(new, over=13)
            console.turn("b", 50, over=9)
            for at in range(0, 20, size):
                console.hand("in", streams[at:at + size])
                told += console.take("out")
            expected = expected or told
            self.assertEqual(told, expected)


class Refused(Judge):
    def test_clash_and_stuck(self):
        clashed = 0
        for weave in many_weaves(106, 80):
            if counts(weave)[0] == "clash":
                clashed += 1
                self.judge_walk(weave, self.refused(Clash, lambda: Console(weave)).walk)
                self.judge_walk(weave, self.refused(Clash, lambda: Console(echo()).fade(weave)).walk)
        self.assertGreater(clashed, 3)
        for ask in (lambda: Console(echo(0)), lambda: Console(echo(1)).fade(echo(0))):
            error = self.refused(Stuck, ask)
            self.assertEqual(("stuck", error.fired, error.ring), live(echo(0)))

    def test_by_name_alone(self):
        console = Console(echo())
        for ask in (lambda: Console(echo(), True), lambda: console.turn("gain", 1, 2), lambda: console.fade(echo(), 2)):
            self.refused(TypeError, ask)

    def test_hand_take_and_left(self):
        console = Console(echo())
        for thing in no_names() + ["out", "mix", "x"]:
            self.refused(NoInlet, lambda: console.hand(thing, None), who=thing)
            self.refused(NoInlet, lambda: console.left(thing), who=thing)
        for thing in no_names() + ["in", "mix", "x"]:
            self.refused(NoOutlet, lambda: console.take(thing), who=thing)
        for thing in no_samples():
            self.refused(NoSample, lambda: console.hand("in", thing))
        self.assertEqual((console.left("in"), console.rounds(), console.log()), ([], 0, []))

    def test_turn(self):
        console = Console(echo(1, 2))
        for thing in no_names() + ["x"]:
            self.refused(Unknown, lambda: console.turn(thing, 1, over=None), who=thing)
            self.refused(Unknown, lambda: console.factor(thing), who=thing)
        for name in ("in", "mix", "out"):
            self.refused(NoGain, lambda: console.turn(name, 1, over=None), who=name)
            self.refused(NoGain, lambda: console.factor(name), who=name)
        for thing in no_wholes() + [-1, 401, HUGE, -HUGE]:
            self.refused(NoSteps, lambda: console.turn("gain", 1, over=thing))
        self.assertEqual((console.factor("gain"), handed(console, [1, 0, 0])), (2, [1, 2, 4]))

    def test_fade(self):
        console = Console(chain(Gain(2)))
        clashing = weave_of({"in": Inlet(), "down": Down(2), "mix": Mix(2)},
                            ["in down 0 0", "down mix 0 0", "in mix 1 0"])
        for thing in no_wholes() + [-1, 401, HUGE, -HUGE]:
            self.refused(NoSteps, lambda: console.fade(clashing, over=thing))
        self.refused(Clash, lambda: console.fade(clashing, over=400))
        self.refused(Stuck, lambda: console.fade(echo(0), over=0))
        self.refused(Unlike, lambda: console.fade(two_in(), over=0), who="in")
        self.assertEqual((console.fading(), console.weave(), handed(console, [1])), (0, chain(Gain(2)), [2]))

    def test_fading(self):
        console = Console(chain(Gain(0)))
        console.fade(chain(Gain(8)), over=2)
        for over in (0, 5, None):
            self.refused(Fading, lambda: console.fade(echo(0), over=over))
        self.assertEqual((handed(console, [1]), console.fading()), ([4], 1))
        self.refused(Fading, lambda: console.fade(chain(Gain(0)), over=0))
        self.assertEqual((handed(console, [1]), console.fading()), ([8], 0))
        console.fade(chain(Gain(0)), over=0)
        self.assertEqual(handed(console, [1]), [0])

    def test_unlike(self):
        old = weave_of({"ia": Inlet(), "oa": Outlet(), "ib": Inlet(), "ob": Outlet()}, ["ia oa 0 0", "ib ob 0 0"])

        def fade(nodes, wires, who, **more):
            console = Console(old)
            self.refused(Unlike, lambda: console.fade(weave_of(nodes, wires), **more), who=who)
            self.assertEqual((console.weave(), console.fading()), (old, 0))
        fade({}, [], "ia")
        fade({"ia": Inlet(), "ob": Outlet(), "oa": Outlet()}, ["ia oa 0 0", "ia ob 0 0"], "ib", over=0)
        fade({"ib": Inlet(), "ob": Outlet(), "oa": Outlet()}, ["ib oa 0 0", "ib ob 0 0"], "ia")
        fade({"ib": Inlet(), "ia": Inlet(), "oa": Outlet(), "c": Inlet()}, ["ia oa 0 0"], "ob")
        fade({"d": Outlet(), "c": Inlet(), "ib": Inlet(), "ia": Inlet(), "oa": Outlet(), "ob": Outlet()},
             ["ia oa 0 0", "ib ob 0 0", "c d 0 0"], "c")
        fade({"d": Outlet(), "ib": Inlet(), "ia": Inlet(), "oa": Outlet(), "ob": Outlet()},
             ["ia oa 0 0", "ib ob 0 0", "ia d 0 0"], "d")
        fade({"ia": Outlet(), "oa": Inlet(), "ib": Inlet(), "ob": Outlet()}, ["oa ia 0 0", "ib ob 0 0"], "ia")
        fade({"ia": Gain(1), "c": Inlet(), "ib": Inlet(), "oa": Outlet(), "ob": Outlet()},
             ["c ia 0 0", "ia oa 0 0", "ib ob 0 0"], "ia")

    def test_unlike_counts(self):
        old = weave_of({"in": Inlet(), "up": Up(2), "oa": Outlet(), "ob": Outlet()},
                       ["in up 0 0", "up ob 0 0", "in oa 0 0"])
        self.refused(Unlike, lambda: Console(old).fade(
            weave_of({"in": Inlet(), "oa": Outlet(), "ob": Outlet()}, ["in oa 0 0", "in ob 0 0"])), who="ob")
        new = weave_of({"in": Inlet(), "up": Up(2), "down": Down(2), "own": Down(2), "oa": Outlet(), "ob": Outlet()},
                       ["in down 0 0", "down oa 0 0", "in own 0 0", "own up 0 0", "up ob 0 0"])
        self.refused(Unlike, lambda: Console(old).fade(new), who="in")
        self.refused(Unlike, lambda: Console(new).fade(old), who="in")

    def test_two_consoles_know_nothing_of_each_other(self):
        weave = echo(1, 2)
        one, other = Console(weave), Console(weave)
        one.turn("gain", 9, over=0)
        one.fade(echo(1, 3), over=4)
        one.hand("in", [1])
        self.assertEqual((other.factor("gain"), other.fading(), other.rounds(), other.log()), (2, 0, 0, []))
        self.assertEqual(handed(other, [1, 0]), [1, 2])


class Spoiling(unittest.TestCase):
    def stands(self, console):
        return (console.left("in"), console.rounds(), console.fading(), console.take("out"), console.factor("b"))

    def test_in_either_weaves_round(self):
        for old, new in ((Moody(2), Moody()), (Moody(), Moody(1)), (Moody(2), Moody(1))):
            console = Console(chain(Own(old), Gain(1)))
            self.assertEqual(handed(console, [1]), [1])
            console.fade(chain(Own(new), Gain(10)), over=4)
            console.turn("b", 20, over=2)
            with self.assertRaises(Spoilt):
                console.hand("in", [2, 3, 4])
            self.assertEqual(self.stands(console), ([3, 4], 2, 3, [3 + (2 * 15 - 3) // 4], 15))
            if len(old.raised) + len(new.raised) == 1 and old.refused and new.refused:
                with self.assertRaises(Spoilt):
                    console.settle()
            self.assertEqual(console.settle(), 2)
            self.assertEqual(console.take("out"), [6 + (5 * 20 - 6) * 2 // 4, 10 + (9 * 20 - 10) * 3 // 4])
            self.assertEqual(console.log()[:4], [("begin", 0), ("end", 1), ("begin", 1), ("end", 2)])
            self.assertEqual(console.log()[-2:], [("begin", 2), ("end", 4)])

    def test_at_any_call(self):
        for call in range(10):
            for which in range(2):
                old, new = [Moody(call) if at == which else Moody() for at in range(2)]
                console = Console(chain(Own(old), Taps([1, 1])))
                console.fade(chain(Own(new), Taps([2, 1])), over=3)
                plain = Console(chain(Own(Moody()), Taps([1, 1])))
                plain.fade(chain(Own(Moody()), Taps([2, 1])), over=3)
                told = []
                for sample in (5, 6, 7, 8):
                    try:
                        console.hand("in", [sample])
                    except Spoilt:
                        self.assertEqual((console.left("in"), console.fading()), ([sample], max(0, 3 - sample + 5)))
                        console.settle()
                    told += console.take("out")
                self.assertEqual(told, handed(plain, [5, 6, 7, 8]))
                self.assertEqual((console.rounds(), console.fading()), (4, 0))

    def test_a_weave_that_refuses_can_be_faded_away(self):
        def refusing(memory, rows):
            raise Spoilt("never")
        console = Console(chain(Own(refusing)))
        with self.assertRaises(Spoilt) as caught:
            console.hand("in", [1, 2])
        self.assertEqual(caught.exception.why, "never")
        console.fade(chain(Gain(3)), over=2)
        with self.assertRaises(Spoilt):
            console.settle()
        self.assertEqual((console.fading(), console.rounds()), (2, 0))
        other = Console(chain(Own(refusing)))
        with self.assertRaises(Spoilt):
            other.hand("in", [1, 2])
        other.fade(chain(Gain(3)), over=0)
        self.assertEqual((other.settle(), other.take("out")), (2, [3, 6]))
        self.assertEqual(other.log(), [("begin", 0), ("end", 0), ("begin", 0), ("end", 2)])

    def test_the_logs_end_however_a_deed_fails(self):
        def failing(memory, rows):
            raise KeyError("a deed that does otherwise than told")
        console = Console(chain(Own(failing)))
        with self.assertRaises(KeyError):
            console.hand("in", [1])
        self.assertEqual(console.log(), [("begin", 0), ("end", 0)])
        self.assertEqual((console.take("out"), console.left("in"), console.rounds()), ([], [1], 0))


class Asking:
    """A deed that asks its console, at each firing."""

    def __init__(self):
        self.console = None
        self.refusals = []
        self.seen = []

    def __call__(self, memory, rows):
        console = self.console
        for ask in (lambda: console.hand("in", [1]), lambda: console.hand(None, None), console.settle,
                    lambda: console.take("out"), lambda: console.take(None), lambda: console.turn("b", 1),
                    lambda: console.turn(None, 1, over=None), lambda: console.fade(chain(Gain(1))),
                    lambda: console.fade(echo(0), over=None)):
            try:
                ask()
                self.refusals.append(None)
            except Busy as error:
                self.refusals.append(type(error))
        self.seen.append((console.rounds(), console.left("in"), console.fading(), console.factor("b"),
                          console.weave().node("b")))
        return memory, rows[0]


class BusyConsoles(unittest.TestCase):
    def test_what_changes_it_is_refused_and_looks_are_as_behind_the_last_round(self):
        deed = Asking()
        console = deed.console = Console(chain(Own(deed), Gain(2)))
        console.turn("b", 6, over=4)
        self.assertEqual(handed(console, [1, 1]), [3, 4])
        self.assertEqual(deed.refusals, [Busy] * 18)
        self.assertEqual(deed.seen, [(0, [1, 1], 0, 2, Gain(2)), (1, [1], 0, 3, Gain(2))])
        self.assertEqual(console.log(), [("begin", 0), ("end", 2)])

    def test_deeds_of_either_weave(self):
        old, new = Asking(), Asking()
        console = old.console = new.console = Console(chain(Own(old), Gain(0)))
        console.fade(chain(Own(new), Gain(8)), over=2)
        self.assertEqual(handed(console, [1, 1, 1]), [4, 8, 8])
        self.assertEqual((old.refusals, new.refusals), ([Busy] * 18, [Busy] * 27))
        self.assertEqual(new.seen, [(0, [1, 1, 1], 2, 8, Gain(8)), (1, [1, 1], 1, 8, Gain(8)), (2, [1], 0, 8, Gain(8))])
        self.assertEqual(old.seen, new.seen[:2])

    def test_another_console_is_not_busy(self):
        other = Console(echo())
        console = Console(chain(Own(lambda memory, rows: (memory, [other.hand("in", rows[0])]))))
        self.assertEqual((handed(console, [1, 2]), other.take("out")), ([1, 1], [1, 4]))


class Lists(unittest.TestCase):
    def test_told_and_handed_lists_changed(self):
        console = Console(two_in())
        samples = [1, 2, 3]
        console.hand("ia", samples)
        samples.append(4)
        samples[0] = 7
        for ask in (lambda: console.left("ia"), console.log):
            kept = list(ask())
            ask().append(5)
            self.assertEqual(ask(), kept)
        console.hand("ib", [4])
        told = console.take("ob")
        told.append(9)
        self.assertEqual((console.take("ob"), console.take("oa")), ([], [1]))
        console.log().clear()
        self.assertEqual(console.log(), [("begin", 0), ("end", 1)])

    def test_a_weave_stays(self):
        weave = echo(1, 2)
        kept = copy.deepcopy(weave)
        console = Console(weave)
        console.turn("gain", 7, over=0)
        console.fade(weave, over=1)
        console.turn("gain", 9, over=0)
        console.hand("in", [1, 2, 3])
        self.assertEqual(weave, kept)
        self.assertEqual(console.weave(), kept)
