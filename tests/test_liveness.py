import copy
import random
import unittest

from sampleweave.errors import Clash
from sampleweave.liveness import live
from sampleweave.nodes import Gain, Inlet, Mix, Outlet, Own, Times
from sampleweave.rates import Down, Up
from sampleweave.rounds import counts, first_queues
from sampleweave.weaves import Weave
from tests.things import adding
from tests.test_rounds import Judge
from tests.woven import Queues, chain, echo, leads_on, many_weaves, rate, weave_of


def can_make_a_round(weave, lengths):
    """By another way, the last nodes ahead: whether a round can be fired."""
    queues = Queues(weave, lengths)
    still = dict(counts(weave)[1])
    while any(still.values()):
        ready = [name for name in weave.names() if still[name] > 0 and queues.can_fire(name)]
        if not ready:
            return False
        queues.fire(ready[-1])
        still[ready[-1]] -= 1
    return True


class Live(Judge):
    def told(self, weave, lates=False):
        told = live(weave, lates=lates)
        self.assertIsInstance(told, tuple)
        lengths = first_queues(weave, lates=lates)
        if told[0] == "live":
            self.judge_row(weave, told, lengths)
        else:
            self.judge_stuck(weave, told, lengths)
        self.assertEqual(told[0] == "live", can_make_a_round(weave, lengths))
        return told

    def judge_row(self, weave, told, lengths):
        word, row = told
        self.assertIsInstance(row, list)
        self.assertEqual([(name, row.count(name)) for name in weave.names()], counts(weave)[1])
        queues = Queues(weave, lengths)
        for again in range(2):
            for name in row:
                self.assertTrue(queues.can_fire(name))
                queues.fire(name)
            self.assertEqual(queues.lengths, lengths)

    def judge_stuck(self, weave, told, lengths):
        word, fired, ring = told
        self.assertEqual(word, "stuck")
        self.assertIsInstance(fired, list)
        self.assertIsInstance(ring, list)
        self.assertEqual([name for name, many in fired], weave.names())
        shares, fired = dict(counts(weave)[1]), dict(fired)
        self.assertTrue(all(0 <= fired[name] <= shares[name] for name in fired))
        self.assertGreaterEqual(len(ring), 1)
        self.assertTrue(leads_on(weave, ring))
        for number in ring:
            source, goal, place, delay = weave.wires()[number]
            gives, takes = rate(weave, number)
            self.assertLess(fired[goal], shares[goal])
            self.assertLess(lengths[number] + fired[source] * gives - fired[goal] * takes, takes)

    def test_by_hand(self):
        self.assertEqual(live(Weave([], [])), ("live", []))
        self.assertEqual(live(weave_of({"in": Inlet()}, [])), ("live", ["in"]))
        self.assertEqual(live(chain(Gain(1))), ("live", ["in", "a", "out"]))
        self.assertEqual(self.told(echo(1))[0], "live")
        self.assertEqual(self.told(echo(9999))[0], "live")
        self.assertEqual(self.told(chain(Up(3), Down(2)))[0], "live")

    def test_a_stuck_ring(self):
        word, fired, ring = self.told(echo(0))
        self.assertEqual((word, fired), ("stuck", [("in", 1), ("mix", 0), ("gain", 0), ("out", 0)]))
        self.assertEqual(sorted(ring), [1, 2])

    def test_a_node_that_waits_for_itself(self):
        for takes, delay, word in [(1, 0, "stuck"), (1, 1, "live"), (3, 2, "stuck"), (3, 3, "live"), (8, 7, "stuck")]:
            weave = weave_of({"in": Inlet(), "own": Own(adding, (1, takes), takes)},
                             ["in own 0 0", f"own own 1 {delay}"])
            told = self.told(weave)
            self.assertEqual(told[0], word)
            if word == "stuck":
                self.assertEqual(told[2], [1])

    def test_rings_of_unlike_counts(self):
        for delay, word in [(0, "stuck"), (1, "stuck"), (2, "live"), (3, "live")]:
            weave = weave_of({"in": Inlet(), "times": Times(), "down": Down(2), "up": Up(2), "out": Outlet()},
                             ["in times 0 0", "up times 1 0", "times down 0 0", f"down up 0 {delay // 2}",
                              "times out 0 0"])
            self.assertEqual(self.told(weave)[0], word)
            weave = weave.delayed([0, delay, 0, 0, 0])
            self.assertEqual(self.told(weave)[0], word)

    def test_a_ring_that_gets_stuck_on_the_way(self):
        weave = weave_of({"in": Inlet(), "up": Up(4), "mix": Mix(2), "down": Down(4), "back": Up(4), "out": Outlet()},
                         ["in up 0 0", "up mix 0 0", "back mix 1 3", "mix down 0 0", "down back 0 0", "down out 0 0"])
        word, fired, ring = self.told(weave)
        self.assertEqual(word, "stuck")
        self.assertEqual(sorted(ring), [2, 3, 4])

    def test_several_pieces(self):
        nodes = {"ia": Inlet(), "oa": Outlet(), "ib": Inlet(), "mix": Mix(2), "gain": Gain(1)}
        wires = ["ia oa 0 0", "ib mix 0 0", "gain mix 1 0"]
        self.assertEqual(self.told(weave_of(nodes, wires + ["mix gain 0 1"]))[0], "live")
        told = self.told(weave_of(nodes, wires + ["mix gain 0 0"]))
        self.assertEqual(told[0], "stuck")
        self.assertEqual(sorted(told[2]), [2, 3])

    def test_with_lates(self):
        weave = echo(0).put("gain", Gain(2, late=1))
        self.assertEqual(self.told(weave)[0], "stuck")
        self.assertEqual(self.told(weave, True)[0], "live")
        self.assertEqual(live(lates=False, weave=weave), live(weave))

    def test_by_chance(self):
        words = []
        for weave in many_weaves(21, 400, lates=(0, 0, 1, 2)):
            if counts(weave)[0] == "counts":
                words += [self.told(weave)[0], self.told(weave, True)[0]]
        self.assertGreater(words.count("live"), 100)
        self.assertGreater(words.count("stuck"), 50)

    def test_great_counts(self):
        weave = chain(Down(8), Down(8), Up(8))
        self.assertEqual(len(self.told(weave)[1]), 64 + 8 + 1 + 1 + 8)

    def test_clash(self):
        clashed = 0
        for weave in many_weaves(22, 100):
            if counts(weave)[0] == "clash":
                clashed += 1
                for lates in (False, True):
                    with self.assertRaises(Clash) as caught:
                        live(weave, lates=lates)
                    self.judge_walk(weave, caught.exception.walk)
                caught.exception.walk.clear()
                self.assertNotEqual(counts(weave)[1], [])
        self.assertGreater(clashed, 5)

    def test_in_another_order(self):
        chance = random.Random(23)
        for weave in many_weaves(24, 100):
            if counts(weave)[0] == "counts":
                nodes, wires = [(name, weave.node(name)) for name in weave.names()], weave.wires()
                chance.shuffle(nodes)
                chance.shuffle(wires)
                self.assertEqual(self.told(Weave(nodes, wires))[0], live(weave)[0])

    def test_told_lists_changed(self):
        for weave in (echo(0), echo(1)):
            kept = copy.deepcopy(self.told(weave))
            for told in live(weave)[1:]:
                told.clear()
                told.append(None)
            self.assertEqual(live(weave), kept)
