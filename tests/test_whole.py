"""The promise over the whole program: whichever way a weave is run, the same samples come out."""

import random
import unittest

from sampleweave.blocks import Blocks
from sampleweave.consoles import Console
from sampleweave.desk import Desk
from sampleweave.engines import Engine
from sampleweave.errors import Spoilt
from sampleweave.fractions import fraction, response
from sampleweave.keepers import Count, Latch, Tape, Taps
from sampleweave.lateness import chain, latenesses, made_up, rounds_late
from sampleweave.liveness import live
from sampleweave.looms import Loom
from sampleweave.nodes import Choose, Clip, Gain, Inlet, Mix, Outlet, Own, Share, Times
from sampleweave.polynomials import added, multiplied
from sampleweave.ramps import ramp
from sampleweave.rates import Down, Resample, Up
from sampleweave.rounds import counts, first_queues
from sampleweave.sameness import same
from sampleweave.stretches import most_rounds, stretch
from sampleweave.texts import read_weave, weave_text
from sampleweave.ways import cone, fed_by, feeding
from sampleweave.weaves import Weave
from tests.test_engines import live_weaves, streams_for
from tests.test_lateness import can_be_made_up
from tests.test_looms import fired_by_chance
from tests.things import adding
from tests.woven import Streams, echo

ROUNDS = 12


def in_pieces(chance, runner, handed):
    """Hand in all, in pieces and from inlets by chance, and take what comes out."""
    rest = {name: list(handed[name]) for name in handed}
    told = {name: [] for name in runner.weave().outlets()}
    while any(rest.values()):
        name = chance.choice([name for name in rest if rest[name]])
        many = chance.randint(1, len(rest[name]))
        runner.hand(name, rest[name][:many])
        rest[name] = rest[name][many:]
        for outlet in told:
            told[outlet] += runner.take(outlet)
    return told


def in_blocks(weave, handed, rounds, lates):
    shares = dict(counts(weave)[1])
    blocks = Blocks(weave, rounds, lates=lates)
    told = {name: [] for name in weave.outlets()}
    for at in range(ROUNDS // rounds):
        block = blocks.block({name: handed[name][at * rounds * shares[name]:(at + 1) * rounds * shares[name]]
                              for name in handed})
        for name in told:
            told[name] += block[name]
    return told


def by_hand(chance, weave, handed, lates):
    """What a loom tells, where nodes are fired by chance, none oftener than so many rounds ask."""
    shares = dict(counts(weave)[1])
    loom = Loom(weave, lates=lates)
    names = list(handed)
    chance.shuffle(names)
    for name in names:
        loom.hand(name, handed[name])
    while True:
        ready = [name for name in loom.ready() if loom.firings(name) < shares[name] * ROUNDS]
        if not ready:
            return {name: loom.came(name) for name in weave.outlets()}
        loom.fire(chance.choice(ready))


def at_a_desk(chance, weave, handed, lates):
    desk = Desk()
    desk.say(f"weave a\n{weave_text(weave)}")
    desk.say("begin a a" + (" run" if lates else ""))
    rest = {name: list(handed[name]) for name in handed}
    while any(rest.values()):
        name = chance.choice([name for name in rest if rest[name]])
        many = chance.randint(1, len(rest[name]))
        desk.say(f"hand a {name} " + " ".join(str(sample) for sample in rest[name][:many]))
        rest[name] = rest[name][many:]
    return {name: [int(word) for word in desk.say(f"take a {name}").split()] for name in weave.outlets()}


def has_own(weave):
    return any(isinstance(weave.node(name), Own) for name in weave.names())


def without_owns(chance, seed, many, lates):
    """Live weaves of which all have texts, most of them with counts above 1."""
    found = [weave for weave in live_weaves(seed, many, lates) if not has_own(weave)]
    for up in range(1, 5):
        for down in range(1, 5):
            inner = [Up(up, chance.choice([True, False]), late=chance.choice([0, 2])), Taps([1, -2, 3], late=1),
                     Down(down), Resample(down, up, [2, 1, 1], begin=2), Latch(), Clip(-40, 40), Share(3), Count(1, 2, 9),
                     Tape([1, 0, -1], True), Choose(), Times()]
            nodes = [("in", Inlet()), ("up", inner[0]), ("taps", inner[1]), ("down", inner[2]), ("again", inner[3]),
                     ("latch", inner[4]), ("clip", inner[5]), ("share", inner[6]), ("count", inner[7]),
                     ("tape", inner[8]), ("choose", inner[9]), ("times", inner[10]), ("out", Outlet()),
                     ("late", Outlet())]
            wires = [("in", "up", 0, 0), ("up", "taps", 0, chance.randint(0, 5)), ("taps", "down", 0, 0),
                     ("down", "again", 0, 1), ("in", "tape", 0, 0), ("tape", "latch", 0, 0), ("in", "latch", 1, 2),
                     ("again", "clip", 0, 0), ("clip", "choose", 0, 0), ("latch", "choose", 1, 0),
                     ("choose", "choose", 2, 1), ("choose", "times", 0, 0), ("in", "count", 0, 0),
                     ("count", "times", 1, 0), ("times", "share", 0, 0), ("share", "out", 0, 0), ("taps", "late", 0, 3)]
            found.append(Weave(nodes, wires))
    return found


class Promise(unittest.TestCase):
    def check(self, chance, weave, lates):
        shares = dict(counts(weave)[1])
        handed = streams_for(chance, weave, ROUNDS)
        streams = Streams(weave, handed, lates)
        expected = {name: streams.came(name, shares[name] * ROUNDS) for name in weave.outlets()}
        self.assertEqual(in_pieces(chance, Engine(weave, lates=lates), handed), expected)
        self.assertEqual(in_pieces(chance, Console(weave, lates=lates), handed), expected)
        self.assertEqual(by_hand(chance, weave, handed, lates), expected)
        most = most_rounds(weave, lates=lates)
        for rounds in (1, 2, 3, 6, 12):
            if most is None or rounds <= most:
                self.assertEqual(in_blocks(weave, handed, rounds, lates), expected)
        if not has_own(weave):
            self.assertEqual(at_a_desk(chance, weave, handed, lates), expected)
            self.assertEqual(in_pieces(chance, Engine(read_weave(weave_text(weave)), lates=lates), handed), expected)
        if not lates and can_be_made_up(weave):
            self.check_made_up(chance, weave, handed, expected)

    def check_made_up(self, chance, weave, handed, expected):
        shares, late, made = dict(counts(weave)[1]), rounds_late(weave), made_up(weave)
        told = in_pieces(chance, Engine(made, lates=True), handed)
        for name in weave.outlets():
            many = min(late, ROUNDS) * shares[name]
            self.assertEqual(told[name], [0] * many + expected[name][:ROUNDS * shares[name] - many])

    def test_as_meant(self):
        chance = random.Random(151)
        for weave in live_weaves(152, 120) + without_owns(chance, 153, 60, False):
            self.check(chance, weave, False)

    def test_as_run(self):
        chance = random.Random(154)
        for weave in live_weaves(155, 120, True) + without_owns(chance, 156, 60, True):
            self.check(chance, weave, True)

    def test_looms_tell_a_beginning(self):
        chance = random.Random(157)
        for weave in live_weaves(158, 40):
            handed = streams_for(chance, weave, ROUNDS)
            loom, engine = Loom(weave), Engine(weave)
            fired_by_chance(chance, loom, weave, handed, 100)
            for name in handed:
                engine.hand(name, handed[name])
            for name in weave.outlets():
                came, told = sorted([loom.came(name), engine.take(name)], key=len)
                self.assertEqual(told[:len(came)], came)


class ByName(unittest.TestCase):
    """Every argument by the name that the interface gives it."""

    def test_nodes(self):
        for node, other in (
                (Gain(by=1, late=2, begin=3), Gain(1, late=2, begin=3)), (Mix(many=2, late=1), Mix(2, late=1)),
                (Times(late=1, begin=2), Times(late=1, begin=2)), (Clip(high=4, low=3), Clip(3, 4)),
                (Share(by=2), Share(2)), (Choose(begin=1), Choose(begin=1)), (Taps(numbers=[1]), Taps([1])),
                (Own(deed=adding, first=1, gives=2, takes=(2,)), Own(adding, (2,), 2, 1)), (Latch(late=1), Latch(late=1)),
                (Count(size=3, step=2, first=1), Count(1, 2, 3)), (Tape(again=True, numbers=[1]), Tape([1], True)),
                (Up(hold=True, many=2), Up(2, True)), (Down(many=2), Down(2)),
                (Resample(numbers=[1], down=2, up=3), Resample(3, 2, [1]))):
            self.assertEqual(node, other)
        gain = Gain(2)
        memory = gain.turned(memory=gain.fresh(), by=4, steps=1)
        self.assertEqual((gain.fire(memory=memory, rows=[[1]])[1], gain.factor(memory=memory)), ([4], 2))
        self.assertEqual((gain.begun(more=3), ramp(steps=2, last=4, first=0)), (Gain(2, begin=3), [2, 4]))
        self.assertEqual(Spoilt(why="so").why, "so")

    def test_weaves(self):
        weave = Weave(wires=[("in", "gain", 0, 0), ("gain", "out", 0, 1)],
                      nodes=[("in", Inlet()), ("gain", Gain(2)), ("out", Outlet())])
        self.assertEqual((weave.node(name="gain"), weave.into(name="gain"), weave.out_of(name="gain")),
                         (Gain(2), [0], [1]))
        self.assertEqual(weave.put(node=Gain(3), name="gain").delayed(delays=[0, 0]).wires()[1], ("gain", "out", 0, 0))
        self.assertEqual((feeding(name="gain", weave=weave), fed_by(name="gain", weave=weave)),
                         (["in", "gain"], ["gain", "out"]))
        self.assertEqual(len(cone(names=["gain"], weave=weave)), 2)
        self.assertEqual((counts(weave=weave)[0], first_queues(weave=weave, lates=True)), ("counts", [0, 1]))
        self.assertEqual((live(lates=False, weave=weave)[0], stretch(rounds=2, weave=weave, lates=True)[0]),
                         ("live", "row"))
        self.assertIsNone(most_rounds(weave=weave, lates=True))
        self.assertEqual((latenesses(weave=weave)[0], chain(name="out", weave=weave), rounds_late(weave=weave)),
                         (("in", 0), [], 0))
        self.assertEqual(made_up(weave=weave), weave)
        self.assertEqual(fraction(outlet="out", inlet="in", weave=weave), ([0, 2], [1]))
        self.assertEqual(response(rounds=2, outlet="out", inlet="in", weave=weave), [0, 2])
        self.assertEqual((same(other=weave, one=weave), added(other=[1], one=[2]), multiplied(other=[3], one=[2])),
                         (("same",), [3], [6]))
        self.assertEqual(read_weave(text=weave_text(weave=weave)), weave)

    def test_runners(self):
        weave = echo(1, 2)
        engine, console = Engine(lates=False, weave=weave), Console(lates=False, weave=weave)
        for runner in (engine, console):
            self.assertEqual((runner.hand(samples=[1, 1], name="in"), runner.take(name="out")), (2, [1, 3]))
            self.assertEqual(runner.left(name="in"), [])
        engine.keep(memory=engine.memory(name="gain"), name="gain")
        self.assertEqual(engine.waiting(number=2), [3])
        console.turn(over=0, by=5, name="gain")
        self.assertEqual(console.factor(name="gain"), 5)
        console.fade(over=1, weave=weave)
        loom = Loom(lates=True, weave=weave)
        loom.hand(samples=[1], name="in")
        loom.fire(name="gain")
        self.assertEqual((loom.firings(name="gain"), loom.came(name="out"), loom.waiting(number=0)), (1, [], [1]))
        blocks = Blocks(lates=False, rounds=1, weave=weave)
        self.assertEqual(blocks.block(rows={"in": [4]}), {"out": [4]})
        desk = Desk(over=3)
        self.assertEqual((desk.say(row="weave a\n"), desk.play(rows=["show a"])), ("ok", [""]))
