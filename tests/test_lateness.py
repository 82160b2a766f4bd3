"""Latenesses, chains, rounds late, and weaves that are made up for."""

import copy
import random
import unittest

from sampleweave.engines import Engine
from sampleweave.errors import Clash, Knot, Short, Stuck, Unknown, WeaveError
from sampleweave.keepers import Count, Latch, Tape, Taps
from sampleweave.lateness import chain, latenesses, made_up, rounds_late
from sampleweave.liveness import live
from sampleweave.nodes import Gain, Inlet, Mix, Outlet, Own
from sampleweave.rates import Down, Resample, Up
from sampleweave.rounds import counts
from sampleweave.weaves import Weave
from tests.test_engines import streams_for
from tests.test_rounds import Judge
from tests.test_weaves import no_names
from tests.things import adding
from tests.woven import chain as line
from tests.woven import echo, leads_on, many_weaves, rate, weave_of

ASKING = (latenesses, rounds_late, made_up)


def asked(weave, number, lateness):
    """The least whole number from 0 on that a wire lets its goal have, looked for one by one."""
    source, goal, place, delay = weave.wires()[number]
    gives, takes = rate(weave, number)
    least = 0
    while takes * least < gives * (lateness + weave.node(source).late()) - delay:
        least += 1
    return least


def rings(weave):
    """All rings of a weave in which no source stands twice, by going on from each wire."""
    wires = weave.wires()
    found = []

    def go_on(ring):
        if wires[ring[-1]][1] == wires[ring[0]][0]:
            found.append(list(ring))
            return
        for number in weave.out_of(wires[ring[-1]][1]):
            if number > ring[0] and wires[number][0] not in [wires[other][0] for other in ring]:
                go_on([*ring, number])
    for number in range(len(wires)):
        go_on([number])
    return found


def spare(weave, ring):
    """The delay round a ring, by its firings, less what its nodes are late."""
    wires = weave.wires()
    return sum(wires[number][3] // rate(weave, number)[0] - weave.node(wires[number][0]).late() for number in ring)


def is_knot(weave, ring):
    shares = dict(counts(weave)[1])
    return len({shares[weave.wires()[number][0]] for number in ring}) > 1


def late_weaves(seed, many):
    return many_weaves(seed, many, lates=(0, 0, 1, 2, 7), delays=(0, 0, 1, 2, 5, 9, 20))


def can_be_made_up(weave):
    try:
        latenesses(weave)
    except WeaveError:
        return False
    return True


class LateJudge(Judge):
    def judge_latenesses(self, weave, told):
        self.assertIsInstance(told, list)
        self.assertTrue(all(type(row) is tuple and type(row[1]) is int and row[1] >= 0 for row in told))
        self.assertEqual([name for name, lateness in told], weave.names())
        least = dict(told)
        self.assertEqual([least[name] for name in weave.inlets()], [0] * len(weave.inlets()))
        for number, (source, goal, place, delay) in enumerate(weave.wires()):
            gives, takes = rate(weave, number)
            self.assertGreaterEqual(takes * least[goal], gives * (least[source] + weave.node(source).late()) - delay)
        for name in weave.names():
            self.judge_chain(weave, name, least[name], chain(weave, name))

    def judge_chain(self, weave, name, lateness, told):
        self.assertIsInstance(told, list)
        wires = weave.wires()
        for one, other in zip(told, told[1:]):
            self.assertEqual(wires[one][1], wires[other][0])
        if told:
            self.assertEqual(wires[told[-1]][1], name)
        come = 0
        for number in told:
            come = asked(weave, number, come)
        self.assertEqual(come, lateness)

    def judge_ring(self, weave, ring):
        self.assertTrue(leads_on(weave, ring))
        sources = [weave.wires()[number][0] for number in ring]
        self.assertEqual(len(set(sources)), len(sources))
        self.assertTrue(all(type(number) is int for number in ring))


class Least(LateJudge):
    def test_by_hand(self):
        self.assertEqual(latenesses(Weave([], [])), [])
        self.assertEqual(latenesses(weave_of({"a": Inlet()}, [])), [("a", 0)])
        weave = line(Gain(1, late=3), Gain(1, late=4), Gain(1))
        self.assertEqual(latenesses(weave), [("in", 0), ("a", 0), ("b", 3), ("c", 7), ("out", 7)])
        self.assertEqual(latenesses(weave=weave.delayed([9, 1, 0, 2])),
                         [("in", 0), ("a", 0), ("b", 2), ("c", 6), ("out", 4)])
        self.assertEqual(latenesses(weave.delayed([0, 5, 3, 0])),
                         [("in", 0), ("a", 0), ("b", 0), ("c", 1), ("out", 1)])
        self.assertEqual(chain(weave, "out"), [1, 2, 3])
        self.assertEqual(chain(name="b", weave=weave), [1])
        self.assertEqual([chain(weave, "in"), chain(weave, "a")], [[], []])

    def test_the_later_way_decides(self):
        weave = weave_of({"in": Inlet(), "one": Gain(1, late=2), "other": Taps([1], late=5), "mix": Mix(3, late=1),
                          "out": Outlet()},
                         ["in one 0 0", "in other 0 0", "one mix 0 0", "other mix 1 1", "in mix 2 0", "mix out 0 0"])
        self.assertEqual(dict(latenesses(weave)), {"in": 0, "one": 0, "other": 0, "mix": 4, "out": 5})
        self.assertEqual((chain(weave, "mix"), rounds_late(weave)), ([3], 5))

    def test_counts_above_one(self):
        weave = line(Up(3, late=2), Down(2, late=1), Gain(1, late=1))
        self.assertEqual(latenesses(weave), [("in", 0), ("a", 0), ("b", 3), ("c", 4), ("out", 5)])
        self.assertEqual(latenesses(weave.delayed([0, 1, 0, 0])),
                         [("in", 0), ("a", 0), ("b", 3), ("c", 4), ("out", 5)])
        self.assertEqual(latenesses(weave.delayed([0, 2, 0, 0])),
                         [("in", 0), ("a", 0), ("b", 2), ("c", 3), ("out", 4)])
        self.assertEqual(rounds_late(weave), 2)

    def test_wires_back_with_enough_delay(self):
        weave = echo(4).put("gain", Gain(2, late=3)).put("mix", Mix(2, late=1))
        self.assertEqual(dict(latenesses(weave)), {"in": 0, "mix": 3, "gain": 0, "out": 4})
        self.assertEqual((chain(weave, "out"), chain(weave, "gain")), ([1, 3], []))
        weave = echo(0).put("gain", Gain(2, late=3)).put("mix", Mix(2, late=1)).delayed([0, 4, 0, 0])
        self.assertEqual(dict(latenesses(weave)), {"in": 0, "mix": 0, "gain": 1, "out": 1})
        self.assertEqual(chain(weave, "gain"), [2])
        weave = weave_of({"in": Inlet(), "mix": Mix(2, late=2), "out": Outlet()},
                         ["in mix 0 0", "mix mix 1 2", "mix out 0 0"])
        self.assertEqual(dict(latenesses(weave)), {"in": 0, "mix": 0, "out": 2})

    def test_a_ring_behind_a_late_node(self):
        weave = weave_of({"in": Inlet(), "late": Gain(1, late=9), "mix": Mix(2, late=1), "gain": Gain(1, late=1),
                          "out": Outlet()},
                         ["in late 0 0", "late mix 0 0", "gain mix 1 1", "mix gain 0 1", "mix out 0 0"])
        self.assertEqual(dict(latenesses(weave)), {"in": 0, "late": 0, "mix": 9, "gain": 9, "out": 10})

    def test_rings_of_nodes_that_give_several(self):
        weave = weave_of({"in": Inlet(), "own": Own(adding, (4, 4), 4, late=2), "out": Outlet()},
                         ["in own 0 0", "own own 1 11", "own out 0 0"])
        self.assertEqual(dict(latenesses(weave)), {"in": 0, "own": 0, "out": 8})
        with self.assertRaises(Short):
            latenesses(weave.delayed([0, 7, 0]))
        self.assertEqual(dict(latenesses(weave.delayed([0, 8, 0])))["own"], 0)

    def test_several_pieces(self):
        weave = weave_of({"ob": Outlet(), "ia": Inlet(), "ga": Gain(1, late=2), "oa": Outlet(), "ib": Inlet(),
                          "gb": Gain(1, late=5), "none": Inlet()},
                         ["ia ga 0 0", "ga oa 0 0", "ib gb 0 0", "gb ob 0 1"])
        self.assertEqual(latenesses(weave), [("ob", 4), ("ia", 0), ("ga", 0), ("oa", 2), ("ib", 0), ("gb", 0),
                                             ("none", 0)])
        self.assertEqual((rounds_late(weave), chain(weave, "ob"), chain(weave, "none")), (4, [3], []))

    def test_great_delays_and_lates(self):
        weave = line(*[Gain(1, late=99) for _ in range(8)])
        self.assertEqual(latenesses(weave)[-1], ("out", 792))
        self.assertEqual(latenesses(weave.delayed([0, 0, 0, 0, 0, 0, 0, 0, 9999]))[-1], ("out", 0))

    def test_by_chance(self):
        seen = 0
        for weave in late_weaves(71, 300):
            if can_be_made_up(weave):
                seen += 1
                self.judge_latenesses(weave, latenesses(weave))
        self.assertGreater(seen, 100)

    def test_more_noughts_never_make_a_node_later(self):
        chance = random.Random(72)
        for weave in late_weaves(73, 200):
            if can_be_made_up(weave):
                further = weave.delayed([wire[3] + chance.choice([0, 0, 1, 4]) for wire in weave.wires()])
                for (name, more), (other, less) in zip(latenesses(weave), latenesses(further)):
                    self.assertLessEqual(less, more)
                self.assertLessEqual(rounds_late(further), rounds_late(weave))


class Refused(LateJudge):
    def refused_by_all(self, error, weave):
        told = self.refused(error, lambda: chain(weave, weave.names()[-1]))
        for ask in ASKING:
            told = self.refused(error, lambda: ask(weave))
        return told

    def test_clash(self):
        weave = weave_of({"in": Inlet(), "down": Down(2), "mix": Mix(2)},
                         ["in down 0 0", "down mix 0 0", "in mix 1 0"])
        self.judge_walk(weave, self.refused_by_all(Clash, weave).walk)

    def test_stuck(self):
        error = self.refused_by_all(Stuck, echo(0).put("gain", Gain(1, late=5)))
        self.assertEqual(("stuck", error.fired, error.ring), live(echo(0)))

    def test_short(self):
        weave = echo(3).put("gain", Gain(2, late=2)).put("mix", Mix(2, late=2))
        self.assertEqual(sorted(self.refused_by_all(Short, weave).ring), [1, 2])
        self.assertTrue(can_be_made_up(weave.delayed([0, 1, 3, 0])))
        weave = weave_of({"in": Inlet(), "mix": Mix(2, late=2), "out": Outlet()},
                         ["in mix 0 0", "mix mix 1 1", "mix out 0 0"])
        self.assertEqual(self.refused_by_all(Short, weave).ring, [1])

    def test_knot(self):
        weave = weave_of({"in": Inlet(), "mix": Mix(2), "up": Up(2), "down": Down(2), "out": Outlet()},
                         ["in mix 0 0", "mix up 0 9", "up down 0 0", "down mix 1 0", "mix out 0 0"])
        self.assertEqual(counts(weave)[0], "counts")
        self.assertTrue(can_be_made_up(weave))
        weave = weave_of({"in": Inlet(), "mix": Mix(2), "up": Up(2), "gain": Gain(1), "down": Down(2), "out": Outlet()},
                         ["in mix 0 0", "mix up 0 9", "up gain 0 0", "gain down 0 0", "down mix 1 0", "mix out 0 0"])
        ring = self.refused_by_all(Knot, weave).ring
        self.judge_ring(weave, ring)
        self.assertEqual(sorted(ring), [1, 2, 3, 4])

    def test_the_first_one_that_is_due(self):
        nodes = {"in": Inlet(), "mix": Mix(2, late=9), "up": Up(2, late=9), "gain": Gain(1), "down": Down(2),
                 "own": Mix(2, late=4), "out": Outlet()}
        wires = ["in own 0 0", "own own 1 1", "own mix 0 0", "mix up 0 1", "up gain 0 0", "gain down 0 0",
                 "down mix 1 0", "mix out 0 0"]
        knotted = weave_of(nodes, wires)
        self.judge_ring(knotted, self.refused_by_all(Knot, knotted).ring)
        self.assertTrue(is_knot(knotted, self.refused_by_all(Knot, knotted).ring))
        stuck = knotted.delayed([0, 1, 0, 0, 0, 0, 0, 0])
        self.refused_by_all(Stuck, stuck)
        clashing = weave_of({**nodes, "other": Mix(2)}, wires + ["in other 0 0", "gain other 1 0"])
        self.refused_by_all(Clash, clashing)

    def test_by_chance(self):
        seen = {Clash: 0, Stuck: 0, Knot: 0, Short: 0, None: 0}
        for weave in late_weaves(74, 500):
            error = self.due(weave)
            seen[error] += 1
            if error is None:
                latenesses(weave)
                continue
            told = self.refused_by_all(error, weave)
            if error in (Knot, Short):
                self.judge_ring(weave, told.ring)
                self.assertTrue(is_knot(weave, told.ring) if error is Knot else spare(weave, told.ring) < 0)
                told.ring.clear()
                self.refused_by_all(error, weave)
        self.assertGreater(min(seen.values()), 5, seen)

    def due(self, weave):
        if counts(weave)[0] == "clash":
            return Clash
        if live(weave)[0] == "stuck":
            return Stuck
        if any(is_knot(weave, ring) for ring in rings(weave)):
            return Knot
        if any(spare(weave, ring) < 0 for ring in rings(weave)):
            return Short
        return None

    def test_unknown_ahead_of_all_else(self):
        clashing = weave_of({"in": Inlet(), "down": Down(2), "mix": Mix(2)},
                            ["in down 0 0", "down mix 0 0", "in mix 1 0"])
        for weave in (echo(), echo(0), clashing):
            for thing in no_names() + ["x", "outer"]:
                with self.assertRaises(Unknown) as caught:
                    chain(weave, thing)
                self.assertIs(caught.exception.who, thing)


class RoundsLate(unittest.TestCase):
    def test_by_hand(self):
        self.assertEqual(rounds_late(Weave([], [])), 0)
        self.assertEqual(rounds_late(weave_of({"in": Inlet(), "gain": Gain(1, late=9)}, ["in gain 0 0"])), 0)
        self.assertEqual(rounds_late(weave=line(Gain(1, late=9))), 9)
        self.assertEqual(rounds_late(line(Gain(1, late=9), delay=2)), 7)
        self.assertEqual([rounds_late(line(Gain(1, late=late), Up(4))) for late in (0, 1, 2)], [0, 1, 2])
        self.assertEqual([rounds_late(line(Up(4), Gain(1, late=late))) for late in (0, 1, 4, 5, 8, 9)],
                         [0, 1, 1, 2, 2, 3])

    def test_the_least_one(self):
        for weave in late_weaves(75, 200):
            if can_be_made_up(weave):
                shares, least = dict(counts(weave)[1]), dict(latenesses(weave))
                rounds = 0
                while any(shares[name] * rounds < least[name] for name in weave.outlets()):
                    rounds += 1
                self.assertEqual(rounds_late(weave), rounds)


class MadeUp(unittest.TestCase):
    def judge(self, chance, weave, rounds):
        """As run it tells so many noughts, and then what is meant."""
        made = made_up(weave)
        self.assertIsInstance(made, Weave)
        late, shares = rounds_late(weave), dict(counts(weave)[1])
        self.assertEqual(counts(made), counts(weave))
        engine, other = Engine(weave), Engine(made, lates=True)
        handed = streams_for(chance, weave, rounds + late)
        for name in handed:
            engine.hand(name, handed[name])
            other.hand(name, handed[name])
        for name in weave.outlets():
            told = [0] * (shares[name] * late) + engine.take(name)
            self.assertEqual(other.take(name), told[:shares[name] * (rounds + late)])

    def judge_form(self, weave):
        made = made_up(weave)
        least, shares, late = dict(latenesses(weave)), dict(counts(weave)[1]), rounds_late(weave)
        ends = weave.inlets() + weave.outlets()
        self.assertEqual(made.names(), weave.names())
        for name in weave.names():
            node = weave.node(name)
            self.assertEqual(made.node(name), node if name in ends else node.begun(least[name]))
            self.assertEqual(made.node(name).late(), node.late())
        for number, (source, goal, place, delay) in enumerate(weave.wires()):
            gives, takes = rate(weave, number)
            waits = shares[goal] * late if goal in weave.outlets() else least[goal]
            further = delay + takes * waits - gives * (least[source] + weave.node(source).late())
            self.assertGreaterEqual(further, 0)
            self.assertEqual(made.wires()[number], (source, goal, place, further))

    def test_by_hand(self):
        weave = weave_of({"in": Inlet(), "late": Gain(10, late=2), "mix": Mix(2, begin=1), "out": Outlet()},
                         ["in late 0 0", "late mix 0 0", "in mix 1 0", "mix out 0 0"])
        made = made_up(weave=weave)
        self.assertEqual(made.wires(), [("in", "late", 0, 0), ("late", "mix", 0, 0), ("in", "mix", 1, 2),
                                        ("mix", "out", 0, 0)])
        self.assertEqual((made.node("late"), made.node("mix")), (Gain(10, late=2), Mix(2, begin=3)))
        engine = Engine(made, lates=True)
        engine.hand("in", [1, 2, 3, 4, 5])
        self.assertEqual(engine.take("out"), [0, 0, 0, 22, 33])

    def test_what_keeps_and_counts_begins_later(self):
        weave = weave_of({"in": Inlet(), "late": Gain(1, late=3), "count": Count(5), "tape": Tape([7, 8], True),
                          "latch": Latch(), "out": Outlet(), "other": Outlet()},
                         ["in late 0 0", "late count 0 0", "late tape 0 1", "tape latch 0 0", "count latch 1 0",
                          "latch out 0 0", "in other 0 0"])
        made = made_up(weave)
        self.assertEqual([made.node(name).begin() for name in ("count", "tape", "latch")], [3, 2, 3])
        engine = Engine(made, lates=True)
        engine.hand("in", [1, 2, 3, 4, 5])
        self.assertEqual((engine.take("out"), engine.take("other")), ([0, 0, 0, 5, 6], [0, 0, 0, 1, 2]))
        self.judge(random.Random(76), weave, 6)

    def test_several_outlets_are_as_late_as_the_latest(self):
        weave = weave_of({"in": Inlet(), "late": Up(2, True, late=3), "out": Outlet(), "other": Outlet()},
                         ["in late 0 0", "late out 0 1", "in other 0 0"])
        self.assertEqual((latenesses(weave), rounds_late(weave)),
                         ([("in", 0), ("late", 0), ("out", 5), ("other", 0)], 3))
        self.assertEqual(made_up(weave).wires(), [("in", "late", 0, 0), ("late", "out", 0, 1), ("in", "other", 0, 3)])
        self.judge(random.Random(77), weave, 5)

    def test_resampled(self):
        chance = random.Random(78)
        for up, down in ((3, 2), (2, 3), (8, 5), (1, 1)):
            weave = line(Taps([1, 2], late=1), Resample(up, down, [1, 2, 3], late=2), Gain(2, late=1), delay=1)
            self.judge_form(weave)
            self.judge(chance, weave, 5)

    def test_where_nothing_is_late_the_weave_itself(self):
        for weave in many_weaves(79, 100):
            if can_be_made_up(weave):
                self.assertEqual(made_up(weave), weave)
        self.assertEqual(made_up(Weave([], [])), Weave([], []))

    def test_by_chance(self):
        chance = random.Random(80)
        late = 0
        for weave in late_weaves(81, 300):
            if can_be_made_up(weave):
                late += rounds_late(weave) > 0
                self.judge_form(weave)
                self.judge(chance, weave, 5)
        self.assertGreater(late, 30)

    def test_what_is_handed_in_stays(self):
        weave = line(Gain(1, late=3), Up(2), Mix(1, late=1))
        kept = copy.deepcopy(weave)
        made_up(weave)
        latenesses(weave).clear()
        chain(weave, "out").clear()
        self.assertEqual(weave, kept)
        self.assertEqual((dict(latenesses(weave))["out"], chain(weave, "out")), (7, [1, 2, 3]))
