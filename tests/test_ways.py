import random
import unittest

from sampleweave.errors import Unknown
from sampleweave.nodes import Gain, Inlet, Mix, Outlet
from sampleweave.ways import cone, fed_by, feeding
from sampleweave.weaves import Weave
from tests.test_weaves import no_names
from tests.woven import echo, many_weaves, weave_of


def two_sides():
    return weave_of(
        {"oa": Outlet(), "ga": Gain(1), "ia": Inlet(), "ib": Inlet(), "mix": Mix(2), "ob": Outlet(), "self": Mix(2),
         "oc": Outlet(), "lone": Inlet()},
        ["ia ga 0 0", "ga oa 0 0", "ib mix 0 0", "self mix 1 0", "mix self 0 1", "self self 1 1", "mix ob 0 0",
         "ga oc 0 2"])


def led_to(weave, name):
    """By brute force: the set of the names to which ways of wires lead from a name."""
    found = {name}
    for _ in weave.names():
        found |= {goal for source, goal, place, delay in weave.wires() if source in found}
    return found


class Feeding(unittest.TestCase):
    def test_by_hand(self):
        weave = two_sides()
        self.assertEqual(feeding(weave, "oa"), ["oa", "ga", "ia"])
        self.assertEqual(feeding(weave, "ob"), ["ib", "mix", "ob", "self"])
        self.assertEqual(feeding(weave, "self"), ["ib", "mix", "self"])
        self.assertEqual(feeding(weave, "ia"), ["ia"])
        self.assertEqual(feeding(weave, "lone"), ["lone"])
        self.assertEqual(fed_by(weave, "ia"), ["oa", "ga", "ia", "oc"])
        self.assertEqual(fed_by(weave, "mix"), ["mix", "ob", "self"])
        self.assertEqual(fed_by(weave, "self"), ["mix", "ob", "self"])
        self.assertEqual(fed_by(weave, "ob"), ["ob"])
        self.assertEqual(fed_by(weave, "lone"), ["lone"])
        self.assertEqual(fed_by(name="oc", weave=weave), ["oc"])
        self.assertEqual(feeding(name="oc", weave=weave), ["ga", "ia", "oc"])

    def test_a_ring(self):
        weave = echo()
        self.assertEqual(feeding(weave, "gain"), ["in", "mix", "gain"])
        self.assertEqual(fed_by(weave, "gain"), ["mix", "gain", "out"])

    def test_by_chance(self):
        for weave in many_weaves(1, 60):
            ways = {name: led_to(weave, name) for name in weave.names()}
            for name in weave.names():
                self.assertEqual(fed_by(weave, name), [each for each in weave.names() if each in ways[name]])
                self.assertEqual(feeding(weave, name), [each for each in weave.names() if name in ways[each]])

    def test_unknown(self):
        weave = two_sides()
        for thing in no_names() + ["x"]:
            for ask in (feeding, fed_by):
                with self.assertRaises(Unknown) as caught:
                    ask(weave, thing)
                self.assertIs(caught.exception.who, thing)
        with self.assertRaises(Unknown):
            feeding(Weave([], []), "a")

    def test_told_lists_changed(self):
        weave = two_sides()
        for ask in (feeding, fed_by):
            kept = list(ask(weave, "mix"))
            ask(weave, "mix").clear()
            self.assertEqual(ask(weave, "mix"), kept)
            ask(weave, "mix").append("x")
            self.assertEqual(ask(weave, "mix"), kept)
        self.assertEqual(weave, two_sides())


class Cones(unittest.TestCase):
    def test_by_hand(self):
        weave = two_sides()
        self.assertEqual(cone(weave, ["oa"]), weave_of(
            {"oa": Outlet(), "ga": Gain(1), "ia": Inlet()}, ["ia ga 0 0", "ga oa 0 0"]))
        self.assertEqual(cone(weave, ["self"]), weave_of(
            {"ib": Inlet(), "mix": Mix(2), "self": Mix(2)},
            ["ib mix 0 0", "self mix 1 0", "mix self 0 1", "self self 1 1"]))
        self.assertEqual(cone(names=["lone", "ia"], weave=weave), weave_of({"ia": Inlet(), "lone": Inlet()}, []))

    def test_of_no_name(self):
        self.assertEqual(cone(two_sides(), []), Weave([], []))
        self.assertEqual(cone(Weave([], []), []), Weave([], []))

    def test_of_one_twice(self):
        weave = two_sides()
        self.assertEqual(cone(weave, ["ga", "ga", "ga"]), cone(weave, ["ga"]))
        self.assertEqual(cone(weave, ["ob", "oa"]), cone(weave, ["oa", "ob", "oa", "mix"]))

    def test_of_all(self):
        weave = two_sides()
        self.assertEqual(cone(weave, weave.names()), weave)

    def test_by_chance(self):
        chance = random.Random(2)
        for weave in many_weaves(3, 80):
            names = [chance.choice(weave.names()) for _ in range(chance.randint(0, 3))]
            kept = list(names)
            told = cone(weave, names)
            self.assertEqual(names, kept)
            inside = [each for each in weave.names() if any(each in feeding(weave, name) for name in names)]
            self.assertEqual(told.names(), inside)
            self.assertEqual([told.node(name) for name in inside], [weave.node(name) for name in inside])
            self.assertEqual(told.wires(), [wire for wire in weave.wires() if wire[0] in inside and wire[1] in inside])
            self.assertEqual(cone(told, names), told)

    def test_unknown(self):
        weave = two_sides()
        for thing in no_names() + ["x"]:
            for names in ([thing], ["oa", thing], ["oa", "oa", thing, "y"], [thing, None]):
                with self.assertRaises(Unknown) as caught:
                    cone(weave, names)
                self.assertIs(caught.exception.who, thing)

    def test_names_changed_behind_the_call(self):
        names = ["oa"]
        weave = two_sides()
        told = cone(weave, names)
        names.append("ob")
        self.assertEqual(told, cone(two_sides(), ["oa"]))
        self.assertEqual(weave, two_sides())
