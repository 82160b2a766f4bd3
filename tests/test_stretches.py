import copy
import unittest

from sampleweave.errors import Clash, NoCount
from sampleweave.nodes import Gain, Inlet, Mix, Outlet, Own
from sampleweave.rates import Down, Up
from sampleweave.rounds import counts, first_queues
from sampleweave.stretches import most_rounds, stretch
from sampleweave.weaves import Weave
from tests.test_rounds import Judge
from tests.things import HUGE, adding, no_wholes
from tests.woven import Queues, chain, echo, leads_on, many_weaves, rate, weave_of


class Stretched(Judge):
    def told(self, weave, rounds, lates=False):
        told = stretch(weave, rounds, lates=lates)
        self.assertIsInstance(told, tuple)
        word, rows = told
        self.assertIsInstance(rows, list)
        lengths = first_queues(weave, lates=lates)
        if word == "row":
            self.judge_row(weave, rows, rounds, lengths)
        else:
            self.assertEqual(word, "ring")
            self.judge_ring(weave, rows, rounds, lengths)
        return told

    def judge_row(self, weave, row, rounds, lengths):
        self.assertEqual(sorted(row), sorted(weave.names()))
        shares = dict(counts(weave)[1])
        queues = Queues(weave, lengths)
        for name in row:
            for firing in range(shares[name] * rounds):
                self.assertTrue(queues.can_fire(name))
                queues.fire(name)
        self.assertEqual(queues.lengths, lengths)

    def judge_ring(self, weave, ring, rounds, lengths):
        shares = dict(counts(weave)[1])
        self.assertGreaterEqual(len(ring), 1)
        self.assertTrue(leads_on(weave, ring))
        for number in ring:
            source, goal, place, delay = weave.wires()[number]
            takes = rate(weave, number)[1]
            self.assertLess(lengths[number], takes if source == goal else takes * shares[goal] * rounds)

    def judge_most(self, weave, lates=False):
        most = most_rounds(weave, lates=lates)
        if most is None:
            for rounds in (1, 2, 30):
                self.assertEqual(self.told(weave, rounds, lates)[0], "row")
            self.assertEqual(stretch(weave, HUGE, lates=lates)[0], "row")
            return most
        self.assertIs(type(most), int)
        self.assertGreaterEqual(most, 0)
        self.assertEqual(self.told(weave, most + 1, lates)[0], "ring")
        self.assertEqual(stretch(weave, most + HUGE, lates=lates)[0], "ring")
        for rounds in range(1, min(most, 6) + 1):
            self.assertEqual(self.told(weave, rounds, lates)[0], "row")
        if 0 < most < 200:
            self.assertEqual(self.told(weave, most, lates)[0], "row")
        return most


class Stretch(Stretched):
    def test_by_hand(self):
        self.assertEqual(stretch(Weave([], []), 1), ("row", []))
        self.assertEqual(stretch(chain(Gain(1)), 7), ("row", ["in", "a", "out"]))
        self.assertEqual(stretch(rounds=3, weave=weave_of({"in": Inlet()}, [])), ("row", ["in"]))
        self.assertEqual(self.told(echo(3), 3)[0], "row")
        word, ring = self.told(echo(3), 4)
        self.assertEqual((word, sorted(ring)), ("ring", [1, 2]))

    def test_the_ring_is_led_by_what_is_on_its_wires(self):
        weave = echo().delayed([0, 2, 2, 0])
        self.assertEqual(self.told(weave, 2)[0], "row")
        self.assertEqual(self.told(weave, 3)[0], "ring")

    def test_wires_from_a_node_to_itself(self):
        for takes, delay, word in [(1, 0, "ring"), (1, 1, "row"), (4, 3, "ring"), (4, 4, "row"), (4, 5, "row")]:
            weave = weave_of({"in": Inlet(), "own": Own(adding, (1, takes), takes)},
                             ["in own 0 0", f"own own 1 {delay}"])
            for rounds in (1, 2, 50):
                told = self.told(weave, rounds)
                self.assertEqual(told[0], word)
                if word == "ring":
                    self.assertEqual(told[1], [1])

    def test_counts_above_one(self):
        weave = weave_of({"in": Inlet(), "up": Up(3), "mix": Mix(2), "down": Down(3), "back": Up(3), "out": Outlet()},
                         ["in up 0 0", "up mix 0 0", "back mix 1 6", "mix down 0 0", "down back 0 0", "down out 0 0"])
        self.assertEqual(self.told(weave, 2)[0], "row")
        self.assertEqual(self.told(weave, 3)[0], "ring")
        self.assertEqual(most_rounds(weave), 2)

    def test_many_rounds(self):
        for rounds in (1, 2, 100, 1000, HUGE):
            self.assertEqual(stretch(chain(Up(3), Down(2)), rounds)[0], "row")
        self.assertEqual(self.told(echo(9999), HUGE)[0], "ring")

    def test_with_lates(self):
        weave = echo(0).put("gain", Gain(2, late=3))
        self.assertEqual(self.told(weave, 1)[0], "ring")
        self.assertEqual(self.told(weave, 3, True)[0], "row")
        self.assertEqual(self.told(weave, 4, True)[0], "ring")
        self.assertEqual(stretch(weave, 1), stretch(weave, 1, lates=False))
        self.assertEqual(stretch(weave, 1)[0], "ring")

    def test_by_chance(self):
        words = []
        for weave in many_weaves(31, 300, lates=(0, 0, 3)):
            if counts(weave)[0] == "counts":
                for rounds in (1, 2, 9):
                    words += [self.told(weave, rounds)[0], self.told(weave, rounds, True)[0]]
        self.assertGreater(words.count("row"), 100)
        self.assertGreater(words.count("ring"), 100)

    def test_told_lists_changed(self):
        for weave in (echo(1), echo(2)):
            kept = copy.deepcopy(stretch(weave, 2))
            stretch(weave, 2)[1].clear()
            stretch(weave, 2)[1].append(None)
            self.assertEqual(stretch(weave, 2), kept)


class MostRounds(Stretched):
    def test_by_hand(self):
        self.assertIsNone(most_rounds(Weave([], [])))
        self.assertIsNone(most_rounds(chain(Gain(1))))
        self.assertIsNone(most_rounds(weave_of({"in": Inlet()}, [])))
        self.assertEqual([most_rounds(echo(delay)) for delay in (0, 1, 2, 2999, 3000)], [0, 1, 2, 2999, 3000])
        self.assertEqual(most_rounds(weave=echo(5), lates=True), 5)

    def test_the_greater_of_two_wires(self):
        self.assertEqual(self.judge_most(echo().delayed([0, 2, 7, 0])), 7)
        self.assertEqual(self.judge_most(echo().delayed([0, 8, 7, 0])), 8)

    def test_the_lesser_of_two_rings(self):
        nodes = {"in": Inlet(), "mix": Mix(3), "ga": Gain(1), "gb": Gain(1)}
        wires = ["in mix 0 0", "mix ga 0 0", "ga mix 1 5", "mix gb 0 3", "gb mix 2 0"]
        self.assertEqual(self.judge_most(weave_of(nodes, wires)), 3)

    def test_wires_from_a_node_to_itself(self):
        for delay, most in [(0, 0), (1, None), (2, None)]:
            weave = weave_of({"in": Inlet(), "mix": Mix(2)}, ["in mix 0 0", f"mix mix 1 {delay}"])
            self.assertEqual(self.judge_most(weave), most)

    def test_with_lates(self):
        weave = echo(2).put("gain", Gain(2, late=3))
        self.assertEqual((most_rounds(weave), most_rounds(weave, lates=False), most_rounds(weave, lates=True)), (2, 2, 3))

    def test_by_chance(self):
        found = []
        for weave in many_weaves(32, 300, delays=(0, 0, 1, 3, 8, 30), lates=(0, 0, 3)):
            if counts(weave)[0] == "counts":
                found += [self.judge_most(weave), self.judge_most(weave, True)]
        for most in (None, 0, 1, 3):
            self.assertIn(most, found)


class Refused(Stretched):
    def test_no_count(self):
        clashing = next(weave for weave in many_weaves(33, 100) if counts(weave)[0] == "clash")
        for weave in (echo(), Weave([], []), clashing):
            for thing in [0, -1, -HUGE] + no_wholes():
                for lates in (False, True):
                    with self.assertRaises(NoCount):
                        stretch(weave, thing, lates=lates)

    def test_clash(self):
        for weave in many_weaves(34, 60):
            if counts(weave)[0] == "clash":
                for ask in (lambda: stretch(weave, 1), lambda: stretch(weave, 3, lates=True),
                            lambda: most_rounds(weave), lambda: most_rounds(weave, lates=True)):
                    with self.assertRaises(Clash) as caught:
                        ask()
                    self.judge_walk(weave, caught.exception.walk)

    def test_by_name_alone(self):
        with self.assertRaises(TypeError):
            stretch(echo(), 1, True)
        with self.assertRaises(TypeError):
            most_rounds(echo(), True)
