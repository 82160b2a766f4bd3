import copy
import random
import unittest
from fractions import Fraction
from math import gcd

from sampleweave.nodes import Gain, Inlet, Mix, Outlet, Own, Times
from sampleweave.rates import Down, Resample, Up
from sampleweave.rounds import counts, first_queues
from sampleweave.weaves import Weave
from tests.things import Refusing, adding
from tests.woven import chain, echo, many_weaves, rate, weave_of


def pieces(weave):
    """Sets of names that hang together."""
    found = [{name} for name in weave.names()]
    for source, goal, place, delay in weave.wires():
        one = next(piece for piece in found if source in piece)
        other = next(piece for piece in found if goal in piece)
        if one is not other:
            one |= other
            found.remove(other)
    return found


class Judge(Refusing):
    """Tests that look at what is told, whatever it is."""

    def judge(self, weave, told):
        self.assertIsInstance(told, tuple)
        word, rows = told
        self.assertIsInstance(rows, list)
        if word == "counts":
            self.judge_counts(weave, rows)
        else:
            self.assertEqual(word, "clash")
            self.judge_walk(weave, rows)

    def judge_counts(self, weave, rows):
        self.assertEqual([name for name, count in rows], weave.names())
        found = dict(rows)
        self.assertTrue(all(type(row) is tuple and type(row[1]) is int and row[1] >= 1 for row in rows))
        for number, (source, goal, place, delay) in enumerate(weave.wires()):
            gives, takes = rate(weave, number)
            self.assertEqual(found[source] * gives, found[goal] * takes)
        for piece in pieces(weave):
            self.assertEqual(gcd(*[found[name] for name in piece]), 1)

    def judge_walk(self, weave, walk):
        self.assertGreaterEqual(len(walk), 1)
        ends, product = [], Fraction(1)
        for step in walk:
            self.assertIs(type(step), tuple)
            number, onward = step
            self.assertIs(type(onward), bool)
            self.assertIs(type(number), int)
            source, goal, place, delay = weave.wires()[number]
            gives, takes = rate(weave, number)
            ends.append((source, goal) if onward else (goal, source))
            product *= Fraction(gives, takes) if onward else Fraction(takes, gives)
        for one, other in zip([ends[-1]] + ends, ends):
            self.assertEqual(one[1], other[0])
        self.assertNotEqual(product, 1)


class Counts(Judge):
    def told(self, weave):
        told = counts(weave)
        self.judge(weave, told)
        return told

    def test_by_hand(self):
        self.assertEqual(counts(Weave([], [])), ("counts", []))
        self.assertEqual(counts(weave_of({"b": Inlet(), "a": Inlet()}, [])), ("counts", [("b", 1), ("a", 1)]))
        self.assertEqual(counts(echo()), ("counts", [("in", 1), ("mix", 1), ("gain", 1), ("out", 1)]))
        self.assertEqual(counts(weave=chain(Up(3), Down(2))),
                         ("counts", [("in", 2), ("a", 2), ("b", 3), ("out", 3)]))
        self.assertEqual(counts(chain(Resample(8, 6, [1]))), ("counts", [("in", 6), ("a", 1), ("out", 8)]))
        self.assertEqual(counts(chain(Down(8), Down(8), Up(8), Up(4))),
                         ("counts", [("in", 64), ("a", 8), ("b", 1), ("c", 1), ("d", 8), ("out", 32)]))

    def test_several_pieces_each_by_itself(self):
        weave = weave_of({"oa": Outlet(), "ia": Inlet(), "down": Down(3), "lone": Inlet(), "ib": Inlet(), "up": Up(2),
                          "ob": Outlet()},
                         ["ia down 0 0", "down oa 0 0", "ib up 0 0", "up ob 0 0"])
        self.assertEqual(counts(weave), ("counts", [("oa", 1), ("ia", 3), ("down", 1), ("lone", 1), ("ib", 1),
                                                    ("up", 1), ("ob", 2)]))

    def test_rates_that_meet_again(self):
        for up, down, fits in [(2, 2, True), (2, 3, False), (6, 6, True), (1, 1, True), (8, 7, False)]:
            weave = weave_of({"in": Inlet(), "up": Up(up), "down": Down(down), "times": Times(), "out": Outlet()},
                             ["in up 0 0", "up down 0 0", "down times 0 0", "in times 1 0", "times out 0 0"])
            self.assertEqual(self.told(weave)[0], "counts" if fits else "clash")

    def test_a_clash_on_one_wire(self):
        for takes, gives in [(1, 2), (3, 1), (8, 7)]:
            weave = weave_of({"in": Inlet(), "own": Own(adding, (1, takes), gives), "out": Outlet()},
                             ["in own 0 0", "own out 0 0", "own own 1 5"])
            self.assertEqual(self.told(weave), ("clash", [(2, True)]))
        weave = weave_of({"in": Inlet(), "own": Own(adding, (1, 4), 4)}, ["in own 0 0", "own own 1 5"])
        self.assertEqual(self.told(weave), ("counts", [("in", 1), ("own", 1)]))

    def test_a_clash_of_two_wires_side_by_side(self):
        weave = weave_of({"in": Inlet(), "own": Own(adding, (1, 2))}, ["in own 0 0", "in own 1 0"])
        word, walk = self.told(weave)
        self.assertEqual((word, sorted(number for number, onward in walk)), ("clash", [0, 1]))

    def test_a_clash_in_the_second_piece(self):
        weave = weave_of({"ia": Inlet(), "oa": Outlet(), "ib": Inlet(), "own": Own(adding, (1, 2))},
                         ["ia oa 0 0", "ib own 0 0", "ib own 1 0"])
        self.assertEqual(self.told(weave)[0], "clash")

    def test_a_long_way_round(self):
        nodes = {"in": Inlet(), "a": Mix(2), "b": Up(2), "c": Down(2), "d": Up(3), "e": Gain(1)}
        weave = weave_of(nodes, ["in a 0 0", "a b 0 0", "b c 0 0", "c d 0 0", "d e 0 0", "e a 1 9"])
        word, walk = self.told(weave)
        self.assertEqual((word, len(walk)), ("clash", 5))

    def test_great_counts(self):
        weave = chain(*[Down(8)] * 4, *[Up(7)] * 4)
        self.assertEqual(self.told(weave)[1][0], ("in", 8 ** 4))
        self.assertEqual(self.told(weave)[1][-1], ("out", 7 ** 4))

    def test_by_chance(self):
        words = [self.told(weave)[0] for weave in many_weaves(11, 400)]
        self.assertGreater(words.count("clash"), 25)
        self.assertGreater(words.count("counts"), 200)

    def test_in_another_order(self):
        chance = random.Random(12)
        for weave in many_weaves(13, 120):
            nodes, wires = [(name, weave.node(name)) for name in weave.names()], weave.wires()
            chance.shuffle(nodes)
            chance.shuffle(wires)
            other = Weave(nodes, wires)
            one, told = counts(weave), self.told(other)
            self.assertEqual(one[0], told[0])
            if one[0] == "counts":
                self.assertEqual(dict(one[1]), dict(told[1]))

    def test_delays_and_lates_have_no_bearing(self):
        weave = chain(Up(3), Down(2))
        late = chain(Up(3, late=9, begin=4), Down(2, late=5), delay=7)
        self.assertEqual(counts(weave), counts(late))

    def test_told_lists_changed(self):
        for weave in many_weaves(14, 20):
            kept = copy.deepcopy(self.told(weave))
            counts(weave)[1].clear()
            counts(weave)[1].append(None)
            self.assertEqual(counts(weave), kept)


class FirstQueues(unittest.TestCase):
    def setUp(self):
        self.weave = weave_of(
            {"in": Inlet(), "up": Up(3, late=4), "mix": Mix(2, late=99), "gain": Gain(1, begin=5), "out": Outlet()},
            ["in up 0 7", "up mix 0 0", "gain mix 1 2", "mix gain 0 0", "mix out 0 9999"])

    def test_as_meant(self):
        for told in (first_queues(self.weave), first_queues(self.weave, lates=False), first_queues(weave=self.weave)):
            self.assertEqual(told, [7, 0, 2, 0, 9999])

    def test_as_run(self):
        self.assertEqual(first_queues(self.weave, lates=True), [7, 12, 2, 99, 10098])
        self.assertEqual(first_queues(lates=True, weave=self.weave), [7, 12, 2, 99, 10098])

    def test_by_name_alone(self):
        with self.assertRaises(TypeError):
            first_queues(self.weave, True)

    def test_without_wires(self):
        for lates in (False, True):
            self.assertEqual(first_queues(Weave([], []), lates=lates), [])
            self.assertEqual(first_queues(weave_of({"in": Inlet()}, []), lates=lates), [])

    def test_each_wire_by_its_source(self):
        weave = weave_of({"in": Inlet(), "own": Own(adding, (1, 2), 8, late=3), "out": Outlet(), "down": Down(4, late=2)},
                         ["own own 1 1", "down out 0 0", "in own 0 5", "own down 0 2"])
        self.assertEqual(first_queues(weave), [1, 0, 5, 2])
        self.assertEqual(first_queues(weave, lates=True), [25, 2, 5, 26])

    def test_told_lists_changed(self):
        first_queues(self.weave).clear()
        told = first_queues(self.weave, lates=True)
        told[0] = 50
        self.assertEqual(first_queues(self.weave), [7, 0, 2, 0, 9999])
        self.assertEqual(first_queues(self.weave, lates=True), [7, 12, 2, 99, 10098])
