import unittest

from sampleweave import errors
from sampleweave.errors import Bare, NoDelay, NoName, NoNode, NoPlace, Taken, TooMany, Twice, Unfed, Unknown, WeaveError
from sampleweave.keepers import Taps
from sampleweave.nodes import Gain, Inlet, Mix, Node, Outlet, Own, Times
from sampleweave.rates import Down, Up
from sampleweave.weaves import Weave
from tests.things import HUGE, Yes, adding, makers, no_wholes

NAMES = [letter + other for letter in "abcdef" for other in "abcdefghij"]


def no_texts():
    """Things that stand for no name, whatever they are."""
    return [thing for thing in no_wholes() if not isinstance(thing, str)] + [0, 1, -1, HUGE]


def no_names():
    return no_texts() + ["", "a" * 9, "A", "aB", "a b", " a", "a ", "a1", "1", "a_b", "a-b", "\u00e4", "\u00df", "a\n",
                         "\u0430", "\uff41", "a.b", "abcdefghi", "\u0131"]


def no_places():
    return [-1, 2, 3, HUGE, -HUGE] + no_wholes()


def no_delays():
    return [-1, 10000, HUGE, -HUGE] + no_wholes()


def line(*delays):
    """An inlet, gains one behind the other, and an outlet, with so many wires of these delays."""
    names = ["in"] + [f"g{'abcdefghij'[at]}" for at in range(len(delays) - 1)] + ["out"]
    nodes = [Inlet()] + [Gain(at + 2) for at in range(len(delays) - 1)] + [Outlet()]
    wires = [(names[at], names[at + 1], 0, delay) for at, delay in enumerate(delays)]
    return list(zip(names, nodes)), wires


def fan(nodes, wires):
    """A weave of so many nodes and wires: an inlet that leads to mixes."""
    mixed = [("in", Inlet())]
    laid = []
    for at in range(nodes - 1):
        still = nodes - 2 - at
        many = min(8, wires - len(laid) - still)
        mixed.append((NAMES[at], Mix(many)))
        laid += [("in", NAMES[at], place, place) for place in range(many)]
    return mixed, laid


class Made(unittest.TestCase):
    def test_without_nodes(self):
        weave = Weave([], [])
        self.assertEqual(len(weave), 0)
        self.assertEqual([weave.names(), weave.wires(), weave.inlets(), weave.outlets()], [[], [], [], []])
        self.assertEqual(weave, Weave([], []))
        self.assertEqual(weave, Weave(nodes=[], wires=[]))
        self.assertEqual(weave.delayed([]), weave)

    def test_inlets_alone(self):
        weave = Weave([("a", Inlet()), ("b", Inlet())], [])
        self.assertEqual((weave.inlets(), weave.outlets(), weave.names()), (["a", "b"], [], ["a", "b"]))

    def test_what_is_asked(self):
        nodes = [("out", Outlet()), ("mix", Mix(3)), ("in", Inlet()), ("gain", Gain(2)), ("other", Inlet())]
        wires = [("mix", "out", 0, 5), ("gain", "mix", 2, 0), ("in", "mix", 0, 9999), ("mix", "gain", 0, 1),
                 ("other", "mix", 1, 0)]
        weave = Weave(nodes, wires)
        self.assertEqual(weave.names(), ["out", "mix", "in", "gain", "other"])
        self.assertEqual([weave.node(name) for name in weave.names()], [node for name, node in nodes])
        self.assertEqual(weave.wires(), wires)
        self.assertEqual((weave.inlets(), weave.outlets()), (["in", "other"], ["out"]))
        self.assertEqual([weave.into(name) for name in weave.names()], [[0], [2, 4, 1], [], [3], []])
        self.assertEqual([weave.out_of(name) for name in weave.names()], [[], [0, 3], [2], [1], [4]])
        self.assertEqual(weave.node(name="gain"), Gain(2))
        self.assertEqual((weave.into(name="mix"), weave.out_of(name="mix")), ([2, 4, 1], [0, 3]))
        self.assertEqual(len(weave), 5)

    def test_the_longest_and_shortest_names(self):
        Weave([("a", Inlet()), ("z", Inlet()), ("abcdefgh", Inlet()), ("zzzzzzzz", Inlet())], [])

    def test_wires_from_a_node_to_itself_and_back(self):
        nodes = [("in", Inlet()), ("one", Mix(3)), ("two", Gain(1))]
        wires = [("one", "one", 1, 0), ("in", "one", 0, 0), ("one", "two", 0, 0), ("two", "one", 2, 0)]
        weave = Weave(nodes, wires)
        self.assertEqual((weave.into("one"), weave.out_of("one")), ([1, 0, 3], [0, 2]))

    def test_rates_that_do_not_fit_are_woven(self):
        Weave([("in", Inlet()), ("up", Up(2)), ("mix", Times())],
              [("in", "up", 0, 0), ("up", "mix", 0, 0), ("in", "mix", 1, 0)])

    def test_each_sort(self):
        for name, make in makers():
            node = make()
            weave = Weave([("in", Inlet()), ("node", node)],
                          [("in", "node", place, 0) for place in range(len(node.takes()))])
            self.assertEqual(weave.node("node"), make(), name)

    def test_the_most_nodes_and_wires(self):
        for nodes, wires in [(24, 48), (24, 23), (7, 48)]:
            weave = Weave(*fan(nodes, wires))
            self.assertEqual((len(weave), len(weave.wires())), (nodes, wires))

    def test_delays(self):
        for delay in (0, 1, 9999):
            self.assertEqual(Weave(*line(delay)).wires(), [("in", "out", 0, delay)])


class Refused(unittest.TestCase):
    def refused(self, error, nodes, wires, **fields):
        with self.assertRaises(WeaveError) as caught:
            Weave(nodes, wires)
        self.assertIs(type(caught.exception), error)
        for field, thing in fields.items():
            told = getattr(caught.exception, field)
            self.assertTrue(told is thing or type(told) is type(thing) and told == thing, field)

    def test_too_many(self):
        self.refused(TooMany, *fan(25, 48))
        self.refused(TooMany, *fan(24, 49))
        self.refused(TooMany, *fan(25, 49))
        self.refused(TooMany, [(None, None)] * 25, [])
        self.refused(TooMany, [(None, None)], [(None, None, None, None)] * 49)

    def test_no_name(self):
        for thing in no_names():
            self.refused(NoName, [(thing, Inlet())], [], who=thing)
            self.refused(NoName, [("a", Inlet()), (thing, None)], [("b", 0, 0, 0)], who=thing)

    def test_twice(self):
        self.refused(Twice, [("a", Inlet()), ("b", Inlet()), ("b", None), ("a", None)], [], who="b")
        self.refused(Twice, [("a", Inlet()), ("a", Inlet())], [], who="a")

    def test_no_node(self):
        for thing in no_wholes() + [0, 1, -1, "Gain(1)", Gain, Inlet, Node, Weave([], [])]:
            self.refused(NoNode, [("a", thing)], [], field="node")
            self.refused(NoNode, [("b", Inlet()), ("a", thing), ("a", Inlet())], [(0, 0, 0, 0)], field="node")

    def test_unknown(self):
        nodes, wires = line(0, 0)
        for thing in no_names() + ["b", "inn", "i"]:
            self.refused(Unknown, nodes, [wires[0], (thing, "out", 0, 0)], who=thing)
            self.refused(Unknown, nodes, [wires[0], ("in", thing, 0, 0)], who=thing)
            self.refused(Unknown, nodes, [wires[0], (thing, None, None, None)], who=thing)
        self.refused(Unknown, [], [("a", "b", 0, 0)], who="a")

    def test_no_place(self):
        nodes = [("in", Inlet()), ("times", Times()), ("out", Outlet())]
        for thing in no_places():
            self.refused(NoPlace, nodes, [("in", "times", 0, 0), ("in", "times", thing, None)], wire=1)
        self.refused(NoPlace, nodes, [("in", "in", 0, 0)], wire=0)
        self.refused(NoPlace, nodes, [("times", "in", 0, 0)], wire=0)
        self.refused(NoPlace, nodes, [("in", "out", 1, 0)], wire=0)
        self.refused(NoPlace, nodes, [("out", "times", 0, 0)], wire=0)
        self.refused(NoPlace, nodes, [("out", "out", 0, 0)], wire=0)
        self.refused(NoPlace, nodes, [("out", "times", None, None)], wire=0)
        self.refused(NoPlace, [("in", Inlet()), ("down", Down(4))], [("in", "down", 1, 0)], wire=0)

    def test_no_delay(self):
        nodes, wires = line(0, 0)
        for thing in no_delays():
            self.refused(NoDelay, nodes, [wires[0], ("in", "out", 0, thing)], wire=1)
            self.refused(NoDelay, nodes, [("in", "out", 0, 0), ("in", "out", 0, thing)], wire=1)

    def test_taken(self):
        nodes, wires = line(0, 0)
        self.refused(Taken, nodes, wires + [("in", "ga", 0, 3)], wire=2)
        self.refused(Taken, nodes, [wires[0], wires[0], (None, None, None, None)], wire=1)
        self.refused(Taken, nodes, [wires[0], ("ga", "ga", 0, 0)], wire=1)

    def test_bare(self):
        nodes = [("in", Inlet()), ("mix", Mix(3)), ("out", Outlet())]
        self.refused(Bare, nodes, [], who="mix", place=0)
        self.refused(Bare, nodes, [("in", "mix", 0, 0)], who="mix", place=1)
        self.refused(Bare, nodes, [("in", "mix", 0, 0), ("in", "mix", 2, 0)], who="mix", place=1)
        self.refused(Bare, nodes, [("in", "mix", 0, 0), ("in", "mix", 1, 0)], who="mix", place=2)
        self.refused(Bare, nodes, [("in", "mix", place, 0) for place in range(3)], who="out", place=0)
        self.refused(Bare, [("out", Outlet())], [], who="out", place=0)

    def test_unfed(self):
        nodes = [("out", Outlet()), ("one", Gain(1)), ("two", Gain(1)), ("in", Inlet())]
        wires = [("one", "two", 0, 1), ("two", "one", 0, 1), ("two", "out", 0, 0)]
        self.refused(Unfed, nodes, wires, who="out")
        self.refused(Unfed, nodes, wires[:2] + [("in", "out", 0, 0)], who="one")
        self.refused(Unfed, nodes[1:3] + nodes[:1], wires, who="one")
        self.refused(Unfed, [("one", Gain(1))], [("one", "one", 0, 1)], who="one")

    def test_reached_by_one_place_is_enough(self):
        Weave([("in", Inlet()), ("mix", Mix(2)), ("one", Gain(1))],
              [("one", "mix", 0, 0), ("mix", "one", 0, 0), ("in", "mix", 1, 0)])

    def test_the_first_in_the_documents_order(self):
        good, wires = line(0, 0)
        bad_name, twice, bad_node = [("A", None)], [("in", None)], [("x", None)]
        self.refused(NoName, good + bad_name + twice + bad_node, [(None, None, None, None)], who="A")
        self.refused(Twice, good + twice + bad_name + bad_node, [(None, None, None, None)], who="in")
        self.refused(NoNode, good + bad_node + bad_name + twice, [(None, None, None, None)], field="node")
        bare = good + [("x", Gain(1))]
        unknown, no_place, no_delay = (None, "y", 9, 9), ("in", "ga", 9, -1), ("in", "ga", 0, -1)
        self.refused(Unknown, bare, [wires[0], unknown, no_place, no_delay], who=None)
        self.refused(Unknown, bare, [wires[0], ("out", "y", 9, -1)], who="y")
        self.refused(NoPlace, bare, [wires[0], no_place, unknown, no_delay], wire=1)
        self.refused(NoPlace, bare, [wires[0], ("out", "ga", 0, -1)], wire=1)
        self.refused(NoDelay, bare, [wires[0], no_delay, no_place, unknown], wire=1)
        self.refused(Taken, bare, [wires[0], wires[0], unknown, no_place, no_delay], wire=1)
        self.refused(Bare, [("loop", Gain(1))] + bare, wires + [("loop", "loop", 0, 0)], who="x", place=0)
        self.refused(Unfed, [("loop", Gain(1))] + good, wires + [("loop", "loop", 0, 0)], who="loop")


class Handed(unittest.TestCase):
    def test_lists_changed_behind_the_making(self):
        nodes, wires = line(1, 2, 3)
        weave = Weave(nodes, wires)
        nodes.clear()
        wires[0] = ("in", "out", 0, 7)
        del wires[1]
        self.assertEqual(weave, Weave(*line(1, 2, 3)))
        self.assertEqual(weave.wires(), line(1, 2, 3)[1])
        self.assertEqual(weave.names(), ["in", "ga", "gb", "out"])

    def test_the_lists_stay_as_they_were(self):
        nodes, wires = line(1, 2, 3)
        weave = Weave(nodes, wires)
        weave.put("ga", Gain(50))
        weave.delayed([4, 5, 6])
        self.assertEqual((nodes, wires), line(1, 2, 3))

    def test_told_lists_changed(self):
        weave = Weave(*line(1, 2, 3))
        for ask in (weave.names, weave.wires, weave.inlets, weave.outlets, lambda: weave.into("ga"),
                    lambda: weave.out_of("ga")):
            kept = list(ask())
            ask().append("more")
            ask().clear()
            told = ask()
            told[0] = None
            self.assertEqual(ask(), kept)
        self.assertEqual(weave, Weave(*line(1, 2, 3)))

    def test_numbers_of_a_node_changed(self):
        numbers = [1, 2]
        nodes = [("in", Inlet()), ("taps", Taps(numbers))]
        weave = Weave(nodes, [("in", "taps", 0, 0)])
        numbers.append(3)
        self.assertEqual(weave.node("taps"), Taps([1, 2]))


class Asked(unittest.TestCase):
    def setUp(self):
        nodes, wires = line(1, 2, 3)
        self.weave = Weave(nodes, wires)

    def tearDown(self):
        self.assertEqual(self.weave, Weave(*line(1, 2, 3)))

    def test_unknown(self):
        for thing in no_names() + ["b", "outt", "x"]:
            for ask in (self.weave.node, self.weave.into, self.weave.out_of,
                        lambda name: self.weave.put(name, Gain(1)), lambda name: self.weave.put(name, None)):
                with self.assertRaises(Unknown) as caught:
                    ask(thing)
                self.assertIs(caught.exception.who, thing)

    def test_put(self):
        weave = self.weave.put("gb", Taps([4, 5]))
        self.assertEqual(weave.node("gb"), Taps([4, 5]))
        self.assertEqual(self.weave.node("gb"), Gain(3))
        self.assertEqual(weave.names(), self.weave.names())
        self.assertEqual(weave.wires(), self.weave.wires())
        self.assertEqual(weave.put(node=Gain(3), name="gb"), self.weave)
        self.assertEqual(self.weave.put("in", Inlet()), self.weave)
        self.assertEqual(self.weave.put("out", Outlet()), self.weave)

    def test_put_what_is_no_node(self):
        for thing in no_wholes() + [0, 5, Gain, self.weave]:
            with self.assertRaises(NoNode) as caught:
                self.weave.put("ga", thing)
            self.assertEqual(caught.exception.field, "node")

    def test_put_what_is_unlike(self):
        for name, node in [("ga", Times()), ("ga", Up(2)), ("ga", Down(2)), ("ga", Inlet()), ("ga", Outlet()),
                           ("in", Gain(1)), ("in", Outlet()), ("out", Gain(1)), ("out", Inlet()),
                           ("gb", Own(adding, (1,), 2)), ("gb", Own(adding, (2,)))]:
            with self.assertRaises(errors.Unlike) as caught:
                self.weave.put(name, node)
            self.assertEqual(caught.exception.who, name)

    def test_put_what_takes_and_gives_alike(self):
        for node in (Up(1), Down(1), Own(adding), Mix(1), Gain(7, late=99, begin=9999)):
            self.assertEqual(self.weave.put("ga", node).node("ga"), node)

    def test_delayed(self):
        weave = self.weave.delayed([0, 9999, 7])
        self.assertEqual([wire[3] for wire in weave.wires()], [0, 9999, 7])
        self.assertEqual([wire[:3] for wire in weave.wires()], [wire[:3] for wire in self.weave.wires()])
        self.assertEqual(weave.delayed(delays=[1, 2, 3]), self.weave)

    def test_delays_changed_behind_the_call(self):
        delays = [4, 5, 6]
        weave = self.weave.delayed(delays)
        delays[0] = 9
        self.assertEqual([wire[3] for wire in weave.wires()], [4, 5, 6])
        self.assertEqual(delays, [9, 5, 6])

    def test_a_wrong_delay_at_any_place(self):
        for thing in no_delays():
            for at in range(3):
                delays = [0, 0, 0]
                delays[at] = thing
                with self.assertRaises(NoDelay) as caught:
                    self.weave.delayed(delays)
                self.assertEqual(caught.exception.wire, at)
            with self.assertRaises(NoDelay) as caught:
                self.weave.delayed([0, thing, thing])
            self.assertEqual(caught.exception.wire, 1)


class Equality(unittest.TestCase):
    def parts(self):
        nodes = [("in", Inlet()), ("mix", Mix(2)), ("taps", Taps([1, 2])), ("out", Outlet())]
        wires = [("in", "mix", 0, 0), ("taps", "mix", 1, 1), ("mix", "taps", 0, 0), ("mix", "out", 0, 4)]
        return nodes, wires

    def test_of_equal_lists(self):
        one, other = Weave(*self.parts()), Weave(*self.parts())
        self.assertIs(one == other, True)
        self.assertIs(one != other, False)

    def test_one_thing_changed(self):
        nodes, wires = self.parts()
        weave = Weave(nodes, wires)
        renamed = [("tops" if name == "taps" else name, node) for name, node in nodes]
        relaid = [tuple("tops" if thing == "taps" else thing for thing in wire) for wire in wires]
        swapped = [("in", "mix", 1, 0), ("taps", "mix", 0, 1)] + wires[2:]
        for other in (Weave(nodes[::-1], wires), Weave(nodes, wires[::-1]), weave.delayed([0, 1, 0, 5]),
                      weave.put("taps", Taps([1, 3])), weave.put("taps", Gain(1)), Weave(renamed, relaid),
                      weave.put("taps", Taps([1, 2], late=1)), weave.put("taps", Taps([1, 2], begin=1)),
                      weave.put("mix", Times()), Weave(nodes, swapped), Weave([], [])):
            self.assertIs(weave == other, False)
            self.assertIs(other == weave, False)
            self.assertIs(weave != other, True)

    def test_anything_else(self):
        for weave in (Weave([], []), Weave(*self.parts())):
            for thing in no_wholes()[:-2] + [Yes(), 0, 1, Weave, self.parts(), list(self.parts()), Gain(1)]:
                self.assertIs(weave == thing, False)
                self.assertIs(weave != thing, True)

    def test_length(self):
        self.assertEqual([len(Weave(*line(*[0] * many))) for many in (1, 2, 9)], [2, 3, 10])
