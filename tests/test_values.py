import unittest

from sampleweave.keepers import Count, Latch, Tape, Taps
from sampleweave.nodes import Choose, Clip, Gain, Inlet, Mix, Outlet, Own, Share, Times
from sampleweave.rates import Down, Resample, Up
from tests.things import HUGE, Yes, adding, makers, no_wholes


def other_deed(memory, rows):
    return memory, [0]


def all_unlike():
    """Nodes of which no two are equal, made anew each time."""
    return [
        Inlet(), Outlet(),
        Gain(1), Gain(2), Gain(-1), Gain(1, late=1), Gain(1, begin=1), Gain(1, late=1, begin=1),
        Mix(1), Mix(2), Mix(1, begin=3),
        Times(), Times(late=2), Choose(), Choose(late=2), Latch(), Latch(late=2),
        Clip(0, 1), Clip(1, 1), Clip(0, 2), Clip(0, 1, begin=1),
        Share(1), Share(2), Share(1, late=1),
        Taps([1]), Taps([2]), Taps([1, 0]), Taps([1], late=1),
        Count(), Count(1), Count(0, 2), Count(0, 1, 1), Count(begin=1),
        Tape([1]), Tape([1], True), Tape([1, 0]), Tape([1], late=1),
        Own(adding), Own(other_deed), Own(adding, (2,)), Own(adding, (1, 1)), Own(adding, (1,), 2),
        Own(adding, (1,), 1, 1), Own(adding, (1,), 1, ()), Own(adding, (1,), 1, (0,)), Own(adding, late=1),
        Own(None), Own(None, begin=1),
        Up(1), Up(2), Up(2, True), Up(2, late=1), Up(2, begin=1), Down(1), Down(2), Down(2, late=1), Down(2, begin=1),
        Resample(1, 1, [1]), Resample(2, 1, [1]), Resample(1, 2, [1]), Resample(1, 1, [2]), Resample(1, 1, [1, 0]),
        Resample(1, 1, [1], late=1), Resample(1, 1, [1], begin=1),
    ]


class Equality(unittest.TestCase):
    def test_equal_just_where_made_of_equal_things(self):
        for at, one in enumerate(all_unlike()):
            for to, other in enumerate(all_unlike()):
                self.assertIs(one == other, at == to, f"{one} and {other}")
                self.assertIs(one != other, at != to, f"{one} and {other}")

    def test_what_is_left_out_is_the_default(self):
        self.assertEqual(Count(), Count(0, 1, 0, late=0, begin=0))
        self.assertEqual(Tape([3]), Tape([3], False, late=0, begin=0))
        self.assertEqual(Own(adding), Own(adding, (1,), 1, 0, late=0, begin=0))
        self.assertEqual(Gain(4), Gain(by=4, late=0, begin=0))
        self.assertEqual(Up(3), Up(hold=False, many=3, late=0, begin=0))
        self.assertEqual(Down(3), Down(many=3, late=0, begin=0))
        self.assertEqual(Resample(2, 3, [4]), Resample(numbers=[4], down=3, up=2, late=0, begin=0))

    def test_large_numbers(self):
        self.assertEqual(Gain(HUGE + 1), Gain(1 + HUGE))
        self.assertNotEqual(Gain(HUGE), Gain(HUGE + 1))

    def test_deeds_that_are_equal(self):
        class Like:
            def __eq__(self, other):
                return isinstance(other, Like)
        self.assertEqual(Own(Like()), Own(Like()))

    def test_anything_else(self):
        for node in all_unlike():
            for thing in no_wholes()[:-2] + [Yes(), 0, 1, repr(node), type(node)]:
                self.assertIs(node == thing, False)
                self.assertIs(node != thing, True)

    def test_firing_has_no_bearing(self):
        node = Tape([1, 2])
        node.fire(node.fresh(), [[1]])
        self.assertEqual(node, Tape([1, 2]))


class Shown(unittest.TestCase):
    def test_each_sort(self):
        for node, text in [
            (Inlet(), "Inlet()"), (Outlet(), "Outlet()"), (Gain(3), "Gain(3)"), (Gain(by=-3), "Gain(-3)"),
            (Mix(8), "Mix(8)"), (Times(), "Times()"), (Clip(-4, 5), "Clip(-4, 5)"), (Share(2), "Share(2)"),
            (Choose(), "Choose()"), (Taps([1]), "Taps([1])"), (Taps([1, -2, 0]), "Taps([1, -2, 0])"),
            (Latch(), "Latch()"), (Count(), "Count(0, 1, 0)"), (Count(4, -3, 2), "Count(4, -3, 2)"),
            (Tape([5, 6]), "Tape([5, 6], False)"), (Tape([5], True), "Tape([5], True)"),
            (Gain(HUGE), f"Gain({HUGE})"), (Up(2), "Up(2, False)"), (Up(8, True), "Up(8, True)"), (Down(3), "Down(3)"),
            (Resample(2, 3, [4, -5]), "Resample(2, 3, [4, -5])"),
        ]:
            self.assertEqual(repr(node), text)

    def test_late_and_begin(self):
        for node, text in [
            (Gain(3, late=2), "Gain(3, late=2)"), (Gain(3, begin=9), "Gain(3, begin=9)"),
            (Gain(3, begin=9, late=2), "Gain(3, late=2, begin=9)"), (Gain(3, late=0, begin=0), "Gain(3)"),
            (Mix(2, late=99, begin=9999), "Mix(2, late=99, begin=9999)"), (Times(late=1), "Times(late=1)"),
            (Times(begin=1), "Times(begin=1)"), (Times(late=1, begin=1), "Times(late=1, begin=1)"),
            (Clip(0, 1, late=7), "Clip(0, 1, late=7)"), (Share(2, begin=7), "Share(2, begin=7)"),
            (Choose(late=3, begin=4), "Choose(late=3, begin=4)"), (Taps([1], late=3), "Taps([1], late=3)"),
            (Latch(late=3, begin=4), "Latch(late=3, begin=4)"), (Count(late=3), "Count(0, 1, 0, late=3)"),
            (Tape([5], True, begin=4), "Tape([5], True, begin=4)"), (Up(2, late=3), "Up(2, False, late=3)"),
            (Down(3, late=1, begin=2), "Down(3, late=1, begin=2)"),
            (Resample(2, 3, [4], begin=7), "Resample(2, 3, [4], begin=7)"),
        ]:
            self.assertEqual(repr(node), text)

    def test_it_makes_an_equal_node(self):
        for name, make in makers():
            if name != "Own":
                for node in (make(), make(late=5), make(begin=6), make(late=5, begin=6)):
                    self.assertEqual(eval(repr(node)), node)

    def test_an_own_node_can_be_shown(self):
        self.assertIsInstance(repr(Own(adding, late=1)), str)
