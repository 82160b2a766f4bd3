import random
import unittest

from sampleweave.engines import Engine
from sampleweave.errors import NoInlet, NoOutlet, NoSample, NoWire, Spoilt, Starved, Unknown
from sampleweave.keepers import Count
from sampleweave.liveness import live
from sampleweave.looms import Loom
from sampleweave.nodes import Gain, Inlet, Mix, Outlet, Own, Times
from sampleweave.rates import Down, Up
from sampleweave.rounds import counts, first_queues
from sampleweave.weaves import Weave
from tests.test_engines import no_samples
from tests.test_weaves import no_names
from tests.things import HUGE, Refusing, no_wholes
from tests.woven import Streams, chain, echo, many_weaves, rate, weave_of


def stand(loom, weave):
    """All that can be looked at."""
    return ([loom.waiting(number) for number in range(len(weave.wires()))],
            [loom.firings(name) for name in weave.names()], [loom.came(name) for name in weave.outlets()], loom.ready())


def fired_by_chance(chance, loom, weave, handed, steps):
    """Hand in the streams in pieces, and fire whatever is ready, both by chance."""
    at = {name: 0 for name in handed}
    for _ in range(steps):
        ready = loom.ready()
        if ready and chance.random() < 0.7:
            loom.fire(chance.choice(ready))
        else:
            name = chance.choice(list(handed))
            many = chance.randint(0, 3)
            loom.hand(name, handed[name][at[name]:at[name] + many])
            at[name] += many


class Fired(unittest.TestCase):
    def test_by_hand(self):
        loom = Loom(chain(Gain(3)))
        self.assertEqual(loom.ready(), [])
        self.assertIsNone(loom.hand("in", [1, 2]))
        self.assertEqual((loom.waiting(0), loom.firings("in"), loom.ready()), ([1, 2], 2, ["a"]))
        self.assertIsNone(loom.fire("a"))
        self.assertEqual((loom.waiting(0), loom.waiting(1), loom.ready()), ([2], [3], ["a", "out"]))
        loom.fire(name="out")
        self.assertEqual((loom.came("out"), loom.waiting(1), loom.ready()), ([3], [], ["a"]))
        self.assertEqual([loom.firings(name) for name in ("in", "a", "out")], [2, 1, 1])
        loom.fire("a")
        loom.fire("out")
        self.assertEqual((loom.came(name="out"), loom.came("out"), loom.ready()), ([3, 6], [3, 6], []))
        loom.hand(samples=[], name="in")
        self.assertEqual(loom.firings(name="in"), 2)

    def test_a_sample_goes_to_each_wire(self):
        weave = weave_of({"in": Inlet(), "times": Times(), "out": Outlet(), "other": Outlet()},
                         ["in times 0 0", "in times 1 1", "times out 0 0", "times other 0 2"])
        loom = Loom(weave)
        self.assertEqual(loom.ready(), ["other"])
        loom.hand("in", [5, 6])
        self.assertEqual((loom.waiting(0), loom.waiting(1)), ([5, 6], [0, 5, 6]))
        loom.fire("times")
        loom.fire("times")
        self.assertEqual((loom.waiting(number=2), loom.waiting(3)), ([0, 30], [0, 0, 0, 30]))

    def test_first_queues(self):
        weave = chain(Up(2, late=3), delay=1)
        for lates in (False, True):
            loom = Loom(weave, lates=lates)
            self.assertEqual([len(loom.waiting(number)) for number in range(2)], first_queues(weave, lates=lates))
        self.assertEqual(Loom(lates=True, weave=weave).waiting(1), [0] * 7)
        self.assertEqual(Loom(weave).waiting(1), [0])

    def test_ready_in_the_weaves_order(self):
        weave = weave_of({"oz": Outlet(), "ga": Gain(1), "in": Inlet(), "oa": Outlet(), "gb": Gain(1)},
                         ["in gb 0 1", "gb oz 0 1", "in ga 0 1", "ga oa 0 1"])
        self.assertEqual(Loom(weave).ready(), ["oz", "ga", "oa", "gb"])

    def test_a_wire_from_a_node_to_itself(self):
        weave = weave_of({"in": Inlet(), "mix": Mix(2), "out": Outlet()},
                         ["in mix 0 0", "mix mix 1 1", "mix out 0 0"])
        loom = Loom(weave)
        loom.hand("in", [1, 2, 3])
        for _ in range(3):
            loom.fire("mix")
        self.assertEqual((loom.waiting(1), loom.waiting(2)), ([6], [1, 3, 6]))

    def test_a_stuck_weave(self):
        loom = Loom(echo(0))
        loom.hand("in", [1])
        self.assertEqual(loom.ready(), [])

    def test_without_nodes(self):
        loom = Loom(Weave([], []))
        self.assertEqual(loom.ready(), [])

    def test_a_weave_without_counts(self):
        weave = weave_of({"in": Inlet(), "up": Up(3), "times": Times(), "out": Outlet()},
                         ["in up 0 0", "up times 0 0", "in times 1 0", "times out 0 0"])
        self.assertEqual(counts(weave)[0], "clash")
        loom = Loom(weave)
        loom.hand("in", [2, 3])
        loom.fire("up")
        loom.fire("times")
        loom.fire("times")
        self.assertEqual((loom.waiting(1), loom.waiting(2), loom.waiting(3)), ([0], [], [4, 0]))
        self.assertEqual(loom.ready(), ["up", "out"])

    def test_large_samples(self):
        loom = Loom(chain(Gain(HUGE)))
        loom.hand("in", [HUGE])
        loom.fire("a")
        loom.fire("out")
        self.assertEqual(loom.came("out"), [HUGE * HUGE])


class AnyOrder(unittest.TestCase):
    def weaves(self, seed, many):
        return many_weaves(seed, many, lates=(0, 0, 1, 2))

    def handed(self, chance, weave):
        return {name: [chance.randint(-20, 20) for _ in range(40)] for name in weave.inlets()}

    def test_as_the_firings_tell_by_themselves(self):
        chance = random.Random(61)
        for weave in self.weaves(62, 160):
            for lates in (False, True):
                loom, handed = Loom(weave, lates=lates), self.handed(chance, weave)
                fired_by_chance(chance, loom, weave, handed, 60)
                streams = Streams(weave, handed, lates)
                for name in weave.outlets():
                    self.assertEqual(loom.came(name), streams.came(name, loom.firings(name)))
                for number, (source, goal, place, delay) in enumerate(weave.wires()):
                    waits = streams.waiting(number, loom.firings(source), loom.firings(goal))
                    self.assertEqual(loom.waiting(number), waits)

    def test_two_looms_of_one_weave(self):
        chance = random.Random(63)
        for weave in self.weaves(64, 120):
            one, other, handed = Loom(weave), Loom(weave), self.handed(chance, weave)
            fired_by_chance(chance, one, weave, handed, 40)
            fired_by_chance(chance, other, weave, handed, 90)
            for name in weave.outlets():
                came, further = sorted([one.came(name), other.came(name)], key=len)
                self.assertEqual(further[:len(came)], came)
            for number in range(len(weave.wires())):
                self.assert_beginning(weave, number, one, other)

    def assert_beginning(self, weave, number, one, other):
        """Of all that has come to a place the one is a beginning of the other, as far as both can still be seen."""
        takes = rate(weave, number)[1]
        goal = weave.wires()[number][1]
        gone, further = one.firings(goal) * takes, other.firings(goal) * takes
        since = max(gone, further)
        come, coming = sorted([one.waiting(number)[since - gone:], other.waiting(number)[since - further:]], key=len)
        self.assertEqual(coming[:len(come)], come)

    def test_as_often_fired_they_stand_alike(self):
        chance = random.Random(65)
        for weave in self.weaves(66, 120):
            one, other, handed = Loom(weave), Loom(weave), self.handed(chance, weave)
            fired_by_chance(chance, one, weave, handed, 60)
            for name in reversed(weave.inlets()):
                other.hand(name, handed[name][:one.firings(name)])
            goes_on = True
            while goes_on:
                due = [name for name in other.ready() if other.firings(name) < one.firings(name)]
                goes_on = due != []
                if due:
                    other.fire(chance.choice(due))
            self.assertEqual(stand(other, weave), stand(one, weave))

    def test_a_loom_and_an_engine(self):
        chance = random.Random(67)
        compared = 0
        for weave in self.weaves(68, 120):
            for lates in (False, True):
                if counts(weave)[0] == "counts" and live(weave, lates=lates)[0] == "live":
                    compared += 1
                    self.compare(chance, weave, lates)
        self.assertGreater(compared, 60)

    def compare(self, chance, weave, lates):
        engine, loom, handed = Engine(weave, lates=lates), Loom(weave, lates=lates), self.handed(chance, weave)
        for name in handed:
            engine.hand(name, handed[name])
        fired_by_chance(chance, loom, weave, handed, 150)
        for name in weave.outlets():
            came, further = sorted([loom.came(name), engine.take(name)], key=len)
            self.assertEqual(further[:len(came)], came)


class Refused(Refusing):
    def setUp(self):
        self.weave = chain(Gain(2), Count(), delay=0)
        self.loom = Loom(self.weave)
        self.loom.hand("in", [7, 8])
        self.kept = stand(self.loom, self.weave)

    def tearDown(self):
        self.assertEqual(stand(self.loom, self.weave), self.kept)

    def test_no_inlet(self):
        for thing in no_names() + ["a", "out", "x"]:
            self.refused(NoInlet, lambda: self.loom.hand(thing, [1]), who=thing)
            self.refused(NoInlet, lambda: self.loom.hand(thing, None), who=thing)

    def test_no_sample(self):
        for thing in no_samples():
            self.refused(NoSample, lambda: self.loom.hand("in", thing))

    def test_unknown(self):
        for thing in no_names() + ["x"]:
            self.refused(Unknown, lambda: self.loom.fire(thing), who=thing)
            self.refused(Unknown, lambda: self.loom.firings(thing), who=thing)
        self.refused(Unknown, lambda: self.loom.fire("in"), who="in")
        self.assertEqual(self.loom.firings("in"), 2)

    def test_starved(self):
        for name in ("b", "out"):
            self.refused(Starved, lambda: self.loom.fire(name), who=name)

    def test_starved_at_one_place_or_by_one_sample(self):
        weave = weave_of({"in": Inlet(), "other": Inlet(), "times": Times(), "down": Down(3)},
                         ["in times 0 0", "other times 1 0", "other down 0 0"])
        loom = Loom(weave)
        loom.hand("other", [1, 2])
        for name in ("times", "down"):
            self.refused(Starved, lambda: loom.fire(name), who=name)
        loom.hand("other", [3])
        self.assertEqual(loom.ready(), ["down"])
        loom.fire("down")
        self.refused(Starved, lambda: loom.fire("down"), who="down")
        self.refused(Starved, lambda: loom.fire("times"), who="times")

    def test_no_outlet(self):
        for thing in no_names() + ["in", "a", "x"]:
            self.refused(NoOutlet, lambda: self.loom.came(thing), who=thing)

    def test_no_wire(self):
        for thing in [-1, 3, HUGE, -HUGE] + no_wholes():
            self.refused(NoWire, lambda: self.loom.waiting(thing))
        self.refused(NoWire, lambda: Loom(Weave([], [])).waiting(0))

    def test_by_name_alone(self):
        self.refused(TypeError, lambda: Loom(self.weave, True))

    def test_told_and_handed_lists_changed(self):
        samples = [7, 8]
        loom = Loom(weave=self.weave)
        loom.hand("in", samples)
        samples.clear()
        for ask in (loom.ready, lambda: loom.came("out"), lambda: loom.waiting(0)):
            ask().clear()
            ask().append(None)
        self.assertEqual(stand(loom, self.weave), self.kept)
        self.assertEqual(samples, [])
        for name in ("a", "b", "out"):
            loom.fire(name)
        loom.came("out").clear()
        self.assertEqual(loom.came("out"), [0])


class Spoiling(unittest.TestCase):
    def test_nothing_was_fired(self):
        moods = [True, False]
        refusal = Spoilt("not now")

        def deed(memory, rows):
            if moods.pop(0):
                raise refusal
            return memory + 1, [rows[0][0] + rows[1][0], memory]
        weave = weave_of({"in": Inlet(), "own": Own(deed, (1, 2), 2, 40), "out": Outlet()},
                         ["in own 0 0", "own own 1 2", "own out 0 0"])
        loom = Loom(weave)
        loom.hand("in", [3])
        kept = stand(loom, weave)
        with self.assertRaises(Spoilt) as caught:
            loom.fire("own")
        self.assertIs(caught.exception, refusal)
        self.assertEqual(stand(loom, weave), kept)
        loom.fire("own")
        self.assertEqual((loom.waiting(0), loom.waiting(1), loom.waiting(2)), ([], [3, 40], [3, 40]))
        self.assertEqual(loom.firings("own"), 1)

    def test_a_starved_node_is_not_asked(self):
        asked = []
        weave = chain(Own(lambda memory, rows: asked.append(rows)))
        with self.assertRaises(Starved):
            Loom(weave).fire("a")
        self.assertEqual(asked, [])
