"""Blocks: the same samples as an engine tells, each node firing at a stretch."""

import copy
import random
import unittest

from sampleweave.blocks import Blocks
from sampleweave.engines import Engine
from sampleweave.errors import Busy, Clash, NoCount, NoInlet, NoSample, Spoilt, Tight
from sampleweave.keepers import Taps
from sampleweave.nodes import Gain, Inlet, Mix, Outlet, Own
from sampleweave.rates import Down, Up
from sampleweave.rounds import counts
from sampleweave.stretches import most_rounds, stretch
from sampleweave.weaves import Weave
from tests.test_deeds import Moody, stirred
from tests.test_engines import live_weaves, no_samples, streams_for, two_in
from tests.test_stretches import Stretched
from tests.test_weaves import no_names
from tests.things import HUGE, no_wholes
from tests.woven import chain, echo, many_weaves, weave_of


def engine_told(weave, handed, lates=False):
    engine = Engine(weave, lates=lates)
    for name in handed:
        engine.hand(name, handed[name])
    return {name: engine.take(name) for name in weave.outlets()}


def cut(weave, handed, rounds):
    """What is handed in, cut into blocks of so many rounds."""
    shares = dict(counts(weave)[1])
    many = len(next(iter(handed.values()))) // (rounds * shares[next(iter(handed))])
    return [{name: handed[name][at * rounds * shares[name]:(at + 1) * rounds * shares[name]] for name in handed}
            for at in range(many)]


def joined(weave, blocks, pieces):
    told = {name: [] for name in weave.outlets()}
    for piece in pieces:
        block = blocks.block(piece)
        for name in told:
            told[name] += block[name]
    return told


class Run(unittest.TestCase):
    def test_by_hand(self):
        blocks = Blocks(chain(Gain(3), delay=1), 2)
        self.assertEqual(blocks.blocks(), 0)
        self.assertEqual(blocks.block({"in": [1, 2]}), {"out": [0, 0]})
        self.assertEqual(blocks.block(rows={"in": [3, 4]}), {"out": [3, 6]})
        self.assertEqual(blocks.blocks(), 2)

    def test_a_ring(self):
        blocks = Blocks(rounds=2, weave=echo(2, 10))
        told = [blocks.block({"in": [1, 2]})["out"], blocks.block({"in": [0, 0]})["out"],
                blocks.block({"in": [0, 5]})["out"]]
        self.assertEqual(told, [[1, 2], [10, 20], [100, 205]])

    def test_counts_above_one(self):
        blocks = Blocks(chain(Up(3, True), Down(2)), 2)
        self.assertEqual(blocks.block({"in": [1, 2, 3, 4]}), {"out": [1, 1, 2, 3, 3, 4]})

    def test_several_inlets_and_outlets_in_any_order(self):
        blocks = Blocks(two_in(), 2)
        self.assertEqual(blocks.block({"ib": [10, 20], "ia": [1, 2, 3, 4]}), {"oa": [1, 13], "ob": [0, 0, 0, 1]})
        self.assertEqual(list(blocks.block({"ia": [0] * 4, "ib": [0] * 2})), ["oa", "ob"])

    def test_without_nodes_and_without_outlets(self):
        blocks = Blocks(Weave([], []), 3)
        self.assertEqual((blocks.block({}), blocks.block({}), blocks.blocks()), ({}, {}, 2))
        self.assertEqual(Blocks(weave_of({"in": Inlet()}, []), 2).block({"in": [1, 2]}), {})

    def test_as_run(self):
        weave = chain(Gain(2, late=2), delay=1)
        self.assertEqual(Blocks(weave, 5).block({"in": [1, 2, 3, 4, 5]}), {"out": [0, 0, 2, 4, 6]})
        self.assertEqual(Blocks(weave, 5, lates=True).block({"in": [1, 2, 3, 4, 5]}), {"out": [0, 0, 0, 0, 2]})

    def test_lates_can_make_it_go(self):
        weave = echo(0).put("gain", Gain(2, late=3))
        with self.assertRaises(Tight):
            Blocks(weave, 3)
        blocks = Blocks(weave, 3, lates=True)
        self.assertEqual(blocks.block({"in": [1, 2, 3]}), {"out": [1, 2, 3]})
        self.assertEqual(blocks.block({"in": [0, 0, 0]}), {"out": [2, 4, 6]})

    def test_the_same_as_an_engine_whatever_the_size(self):
        chance = random.Random(61)
        sizes = set()
        for lates in (False, True):
            for weave in live_weaves(62, 160, lates):
                handed = streams_for(chance, weave, 12)
                expected = engine_told(weave, handed, lates)
                most = most_rounds(weave, lates=lates)
                for rounds in (1, 2, 3, 4, 6, 12):
                    if most is None or rounds <= most:
                        sizes.add(rounds)
                        blocks = Blocks(weave, rounds, lates=lates)
                        self.assertEqual(joined(weave, blocks, cut(weave, handed, rounds)), expected)
                        self.assertEqual(blocks.blocks(), 12 // rounds)
        self.assertEqual(sizes, {1, 2, 3, 4, 6, 12})

    def test_two_blocks_know_nothing_of_each_other(self):
        weave = echo(2)
        one, other = Blocks(weave, 2), Blocks(weave, 2)
        one.block({"in": [1, 1]})
        self.assertEqual(other.blocks(), 0)
        self.assertEqual(other.block({"in": [0, 0]}), {"out": [0, 0]})
        self.assertEqual(one.block({"in": [0, 0]}), {"out": [2, 2]})


class Asked(unittest.TestCase):
    """Each deed is asked as often as its node fires and isn't mute, all its askings one behind the other."""

    def listening(self, weave, asked):
        def named(name, deed):
            def heard(memory, rows):
                asked.append(name)
                return deed(memory, rows)
            return heard
        for name in weave.names():
            node = weave.node(name)
            if isinstance(node, Own):
                weave = weave.put(name, Own(named(name, node.deed), node.takes(), node.gives(), begin=node.begin()))
        return weave

    def test_at_a_stretch(self):
        chance = random.Random(63)
        seen = 0
        for weave in live_weaves(64, 160):
            shares = dict(counts(weave)[1])
            for rounds in (1, 3):
                if stretch(weave, rounds)[0] != "row":
                    continue
                asked = []
                blocks = Blocks(self.listening(weave, asked), rounds)
                for piece in cut(weave, streams_for(chance, weave, 2 * rounds), rounds):
                    asked.clear()
                    blocks.block(piece)
                    runs = [name for at, name in enumerate(asked) if at == 0 or asked[at - 1] != name]
                    self.assertEqual(len(runs), len(set(runs)))
                    owns = [name for name in weave.names() if isinstance(weave.node(name), Own)]
                    self.assertEqual({name: asked.count(name) for name in owns},
                                     {name: shares[name] * rounds for name in owns})
                    seen += len(owns)
        self.assertGreater(seen, 100)

    def test_not_while_mute(self):
        deed = Moody()
        blocks = Blocks(chain(Own(deed, begin=4)), 3)
        self.assertEqual((blocks.block({"in": [1, 2, 3]}), deed.calls), ({"out": [0, 0, 0]}, 0))
        self.assertEqual((blocks.block({"in": [4, 5, 6]}), deed.calls), ({"out": [0, 5, 11]}, 2))


class Refused(Stretched):
    def test_no_count(self):
        for thing in no_wholes() + [0, -1, -HUGE]:
            self.refused(NoCount, lambda: Blocks(echo(), thing))
        clashing = weave_of({"in": Inlet(), "down": Down(2), "mix": Mix(2)},
                            ["in down 0 0", "down mix 0 0", "in mix 1 0"])
        self.refused(NoCount, lambda: Blocks(clashing, 0))
        self.refused(Clash, lambda: Blocks(clashing, 1))

    def test_any_whole_number_from_1_on(self):
        blocks = Blocks(chain(Gain(2)), HUGE)
        self.refused(NoSample, lambda: blocks.block({"in": [1, 2]}))
        self.refused(Tight, lambda: Blocks(echo(9), HUGE))

    def test_clash(self):
        clashed = 0
        for weave in many_weaves(65, 80):
            if counts(weave)[0] == "clash":
                clashed += 1
                with self.assertRaises(Clash) as caught:
                    Blocks(weave, 2)
                self.judge_walk(weave, caught.exception.walk)
        self.assertGreater(clashed, 3)

    def test_tight(self):
        tight = 0
        for weave in many_weaves(66, 160, lates=(0, 1, 2)):
            for lates in (False, True):
                for rounds in (1, 2, 5):
                    if counts(weave)[0] == "counts" and stretch(weave, rounds, lates=lates)[0] == "ring":
                        tight += 1
                        with self.assertRaises(Tight) as caught:
                            Blocks(weave, rounds, lates=lates)
                        self.assertEqual(caught.exception.ring, stretch(weave, rounds, lates=lates)[1])
                        caught.exception.ring.clear()
                        self.assertEqual(stretch(weave, rounds, lates=lates)[0], "ring")
        self.assertGreater(tight, 20)

    def test_by_name_alone(self):
        self.refused(TypeError, lambda: Blocks(echo(), 1, True))

    def test_no_inlet(self):
        blocks = Blocks(two_in(), 1)
        whole = {"ia": [1, 2], "ib": [3]}
        keys = [thing for thing in no_names() if thing.__hash__ is not None] + ["oa", "mix", "x"]
        for thing in keys:
            self.refused(NoInlet, lambda: blocks.block({**whole, thing: [1]}), who=thing)
            self.refused(NoInlet, lambda: blocks.block({thing: None, "oa": 1}), who=thing)
        self.refused(NoInlet, lambda: blocks.block({"ib": 5, "ob": 1, "oa": 2}), who="ob")
        self.refused(NoInlet, lambda: blocks.block({"x": [1]}), who="x")
        self.refused(NoInlet, lambda: blocks.block({}), who="ia")
        self.refused(NoInlet, lambda: blocks.block({"ib": None}), who="ia")
        self.refused(NoInlet, lambda: blocks.block({"ia": "none"}), who="ib")
        self.assertEqual((blocks.blocks(), blocks.block(whole)), (0, {"oa": [1], "ob": [0, 0]}))

    def test_no_sample(self):
        blocks = Blocks(two_in(), 1)
        for thing in no_samples() + [[], [1], [1, 2, 3], (1, 2), {1: 1, 2: 2}, "12"]:
            self.refused(NoSample, lambda: blocks.block({"ia": thing, "ib": [3]}))
            if not (isinstance(thing, list) and len(thing) == 1 and type(thing[0]) is int):
                self.refused(NoSample, lambda: blocks.block({"ia": [1, 2], "ib": thing}))
        self.assertEqual((blocks.blocks(), blocks.block({"ia": [1, 2], "ib": [3]})), (0, {"oa": [1], "ob": [0, 0]}))
        self.refused(NoSample, lambda: blocks.block({"ia": [1, 2], "ib": []}))
        self.assertEqual((blocks.blocks(), blocks.block({"ia": [5, 6], "ib": [0]})), (1, {"oa": [8], "ob": [0, 1]}))


class Spoiling(unittest.TestCase):
    def test_the_block_is_not_run_and_goes_again(self):
        for call in range(18):
            deed = Moody(call)
            blocks, other = Blocks(stirred(deed), 1), Blocks(stirred(Moody()), 1)
            spoilt = 0
            for sample in (5, 6, 7, 8, 9, 10):
                try:
                    told = blocks.block({"in": [sample]})
                except Spoilt as error:
                    spoilt += 1
                    self.assertIs(error, deed.raised[0])
                    self.assertEqual(blocks.blocks(), call // 3)
                    told = blocks.block({"in": [sample]})
                self.assertEqual(told, other.block({"in": [sample]}))
            self.assertEqual((spoilt, blocks.blocks()), (1, 6))

    def test_in_a_block_of_several_rounds(self):
        for call in range(6):
            blocks = Blocks(chain(Taps([1, 1]), Own(Moody(call)), Taps([1, 1]), delay=1), 3)
            other = Blocks(chain(Taps([1, 1]), Own(Moody()), Taps([1, 1]), delay=1), 3)
            for samples in ([1, 2, 3], [4, 5, 6]):
                try:
                    told = blocks.block({"in": samples})
                except Spoilt:
                    told = blocks.block({"in": samples})
                self.assertEqual(told, other.block({"in": samples}))

    def test_another_block_may_come_behind_it(self):
        blocks = Blocks(chain(Own(Moody(1))), 2)
        with self.assertRaises(Spoilt):
            blocks.block({"in": [1, 2]})
        self.assertEqual(blocks.block({"in": [10, 20]}), {"out": [10, 30]})

    def test_not_busy_however_a_deed_fails(self):
        failing = [True]

        def deed(memory, rows):
            if failing:
                failing.pop()
                raise KeyError("a deed that does otherwise than told")
            return memory, rows[0]
        blocks = Blocks(chain(Own(deed)), 2)
        with self.assertRaises(KeyError):
            blocks.block({"in": [1, 2]})
        self.assertEqual((blocks.blocks(), blocks.block({"in": [1, 2]})), (0, {"out": [1, 2]}))


class BusyBlocks(unittest.TestCase):
    def test_a_deed_that_asks(self):
        found = []

        def deed(memory, rows):
            for ask in (lambda: blocks.block({"in": [1, 2]}), lambda: blocks.block({}), lambda: blocks.block(None)):
                try:
                    ask()
                    found.append(None)
                except Busy as error:
                    found.append(type(error))
            found.append(blocks.blocks())
            return memory, rows[0]
        blocks = Blocks(chain(Own(deed), Gain(2)), 2)
        self.assertEqual(blocks.block({"in": [1, 2]}), {"out": [2, 4]})
        self.assertEqual(found, [Busy, Busy, Busy, 0] * 2)
        found.clear()
        blocks.block({"in": [3, 4]})
        self.assertEqual(found, [Busy, Busy, Busy, 1] * 2)

    def test_a_deed_that_lets_busy_through(self):
        blocks = Blocks(chain(Own(lambda memory, rows: blocks.block({"in": [1]}))), 1)
        for _ in range(2):
            with self.assertRaises(Busy):
                blocks.block({"in": [1]})
        self.assertEqual(blocks.blocks(), 0)

    def test_other_blocks_meanwhile(self):
        weave = echo(1)
        other = Blocks(weave, 1)
        blocks = Blocks(chain(Own(lambda memory, rows: (memory, other.block({"in": rows[0]})["out"]))), 2)
        self.assertEqual(blocks.block({"in": [1, 2]}), {"out": [1, 4]})
        self.assertEqual(other.blocks(), 2)


class Lists(unittest.TestCase):
    def test_what_is_handed_in_stays(self):
        def deed(memory, rows):
            rows[0].append(9)
            rows.append([])
            return memory, [5]
        rows = {"ib": [3, 4], "ia": [1, 2, 3, 4]}
        kept = copy.deepcopy(rows)
        Blocks(two_in(), 2).block(rows)
        self.assertEqual((rows, list(rows)), (kept, ["ib", "ia"]))
        handed = {"in": [1, 2]}
        Blocks(chain(Own(deed)), 2).block(handed)
        self.assertEqual(handed, {"in": [1, 2]})

    def test_handed_lists_changed(self):
        rows = {"in": [1, 2]}
        blocks = Blocks(chain(Gain(1), delay=1), 2)
        blocks.block(rows)
        rows["in"][0] = 50
        rows["in"].append(3)
        rows.clear()
        self.assertEqual(blocks.block({"in": [3, 4]}), {"out": [1, 2]})

    def test_a_list_handed_in_twice(self):
        samples = [1, 2]
        weave = weave_of({"ia": Inlet(), "ib": Inlet(), "oa": Outlet(), "ob": Outlet()}, ["ia oa 0 1", "ib ob 0 0"])
        told = Blocks(weave, 2).block({"ia": samples, "ib": samples})
        self.assertEqual((told, samples), ({"oa": [0, 1], "ob": [1, 2]}, [1, 2]))

    def test_told_dicts_and_lists_changed(self):
        weave = weave_of({"in": Inlet(), "oa": Outlet(), "ob": Outlet()}, ["in oa 0 1", "in ob 0 1"])
        blocks = Blocks(weave, 2)
        told = blocks.block({"in": [1, 2]})
        told["oa"].append(7)
        self.assertEqual(told["ob"], [0, 1])
        told.clear()
        self.assertEqual(blocks.block({"in": [3, 4]}), {"oa": [2, 3], "ob": [2, 3]})

