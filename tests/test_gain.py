import unittest

from sampleweave.errors import NoSteps
from sampleweave.nodes import Gain
from sampleweave.ramps import ramp
from tests.things import HUGE, no_wholes


def factors(node, memory, many):
    """The factors of so many firings, told by what they give of 1, and the memory behind them."""
    told = []
    for firing in range(many):
        memory, given = node.fire(memory, [[1]])
        told.extend(given)
    return told, memory


class Turned(unittest.TestCase):
    def test_the_factor_at_first(self):
        for by in [0, 1, -4, HUGE]:
            self.assertEqual(Gain(by).factor(Gain(by).fresh()), by)

    def test_over_no_step_it_stands_there_at_once(self):
        node = Gain(5)
        memory = node.turned(node.fresh(), -3, 0)
        self.assertEqual(node.factor(memory), -3)
        self.assertEqual(factors(node, memory, 3)[0], [-3, -3, -3])

    def test_over_one_step(self):
        node = Gain(5)
        memory = node.turned(node.fresh(), 9, 1)
        self.assertEqual(node.factor(memory), 5)
        memory, given = node.fire(memory, [[10]])
        self.assertEqual(given, [90])
        self.assertEqual(node.factor(memory), 9)

    def test_over_several_steps(self):
        for first, last in [(0, 10), (10, 0), (-7, 3), (3, -7), (4, 4), (HUGE, -HUGE)]:
            for steps in [2, 3, 7, 16, 399, 400]:
                node = Gain(first)
                memory = node.turned(node.fresh(), last, steps)
                told, memory = factors(node, memory, steps + 3)
                self.assertEqual(told, ramp(first, last, steps) + [last] * 3)
                self.assertEqual(node.factor(memory), last)

    def test_the_factor_behind_each_firing(self):
        node = Gain(0)
        memory = node.turned(node.fresh(), 9, 4)
        stood = []
        for firing in range(6):
            stood.append(node.factor(memory))
            memory = node.fire(memory, [[7]])[0]
        self.assertEqual(stood, [0, 2, 4, 6, 9, 9])

    def test_in_the_midst_of_a_turn(self):
        node = Gain(0)
        memory = factors(node, node.turned(node.fresh(), 100, 10), 3)[1]
        self.assertEqual(node.factor(memory), 30)
        again = node.turned(memory, 0, 3)
        self.assertEqual(node.factor(again), 30)
        self.assertEqual(factors(node, again, 5)[0], [20, 10, 0, 0, 0])
        at_once = node.turned(memory, 8, 0)
        self.assertEqual(node.factor(at_once), 8)
        self.assertEqual(factors(node, at_once, 2)[0], [8, 8])
        self.assertEqual(factors(node, memory, 8)[0], [40, 50, 60, 70, 80, 90, 100, 100])

    def test_turned_twice_without_a_firing_between(self):
        node = Gain(4)
        memory = node.turned(node.turned(node.fresh(), 100, 5), 8, 2)
        self.assertEqual(node.factor(memory), 4)
        self.assertEqual(factors(node, memory, 3)[0], [6, 8, 8])

    def test_while_it_is_mute(self):
        node = Gain(4, begin=3)
        memory = node.turned(node.fresh(), 8, 2)
        self.assertEqual(factors(node, memory, 7)[0], [0, 0, 0, 6, 8, 8, 8])
        muted = factors(node, memory, 2)[1]
        self.assertEqual(node.factor(muted), 4)
        self.assertEqual(factors(node, node.turned(muted, 1, 0), 3)[0], [0, 1, 1])
        self.assertEqual(node.factor(node.turned(muted, 1, 0)), 1)
        self.assertEqual(factors(node, node.turned(muted, 10, 3), 5)[0], [0, 6, 8, 10, 10])

    def test_turning_changes_no_memory(self):
        node = Gain(4)
        memory = node.fresh()
        node.turned(memory, 100, 2)
        node.turned(memory, 100, 0)
        self.assertEqual(node.factor(memory), 4)
        self.assertEqual(factors(node, memory, 2)[0], [4, 4])

    def test_by_names(self):
        node = Gain(0)
        memory = node.turned(steps=2, by=6, memory=node.fresh())
        self.assertEqual(node.factor(memory=memory), 0)
        self.assertEqual(factors(node, memory, 3)[0], [3, 6, 6])


class Refused(unittest.TestCase):
    def test_no_steps(self):
        node = Gain(2)
        for steps in [-1, 401, HUGE, -HUGE] + no_wholes():
            with self.assertRaises(NoSteps):
                node.turned(node.fresh(), 5, steps)
