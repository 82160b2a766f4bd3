import unittest

from sampleweave.errors import NoNode
from sampleweave.keepers import Count, Latch, Tape, Taps
from sampleweave.nodes import Choose, Clip, Gain, Mix, Own, Share, Times
from sampleweave.rates import Down, Resample, Up
from tests.things import HUGE, Odd, Yes, adding, makers, no_truths, no_wholes


def no_numbers(most):
    """What is no list of one to so many whole numbers."""
    wrong = [thing for thing in no_wholes() if not isinstance(thing, list)]
    wrong += [0, 5, [], (1, 2), [1] * (most + 1), [0] * (most + 40), [[1]], {1: 2}, "12"]
    for thing in no_wholes():
        wrong += [[thing], [1, thing], [thing, 1], [1, 2, thing, 4], [1] * (most - 1) + [thing]]
    return wrong


def no_places():
    """What is no tuple of one to four whole numbers from 1 to 8."""
    wrong = [thing for thing in no_wholes() if not isinstance(thing, tuple)]
    wrong += [1, (), [1], [1, 2], (1,) * 5, (0,), (9,), (-1,), (HUGE,), ((1,),)]
    for thing in [0, 9, -1] + no_wholes():
        wrong += [(thing,), (1, thing), (thing, 1), (1, 1, 1, thing), (1, thing, 1)]
    return wrong


def no_firsts():
    """What is neither a whole number nor a tuple of whole numbers."""
    wrong = [thing for thing in no_wholes() if not isinstance(thing, tuple)]
    for thing in no_wholes():
        wrong += [(thing,), (1, thing), (thing, 1), (1, thing, 3)]
    return wrong


class Refused(unittest.TestCase):
    def refused(self, field, make, things):
        for at, thing in enumerate(things):
            with self.assertRaises(NoNode, msg=f"{field}, thing {at}") as caught:
                make(thing)
            self.assertEqual(caught.exception.field, field)

    def test_gain(self):
        self.refused("by", lambda thing: Gain(thing), no_wholes())
        self.refused("by", lambda thing: Gain(by=thing), no_wholes())

    def test_mix(self):
        self.refused("many", lambda thing: Mix(thing), [0, -1, 9, HUGE, -HUGE] + no_wholes())

    def test_clip(self):
        self.refused("low", lambda thing: Clip(thing, 5), no_wholes())
        self.refused("high", lambda thing: Clip(5, thing), [4, -5, -HUGE] + no_wholes())
        self.refused("low", lambda thing: Clip(thing, thing), no_wholes())

    def test_share(self):
        self.refused("by", lambda thing: Share(thing), [0, -1, -HUGE] + no_wholes())

    def test_own(self):
        self.refused("takes", lambda thing: Own(adding, thing), no_places())
        self.refused("gives", lambda thing: Own(adding, (1,), thing), [0, -1, 9, HUGE] + no_wholes())
        self.refused("first", lambda thing: Own(adding, (1,), 1, thing), no_firsts())

    def test_taps(self):
        self.refused("numbers", lambda thing: Taps(thing), no_numbers(12))

    def test_count(self):
        self.refused("first", lambda thing: Count(thing), no_wholes())
        self.refused("step", lambda thing: Count(0, thing), no_wholes())
        self.refused("size", lambda thing: Count(0, 1, thing), [-1, -HUGE] + no_wholes())

    def test_tape(self):
        self.refused("numbers", lambda thing: Tape(thing), no_numbers(60))
        self.refused("numbers", lambda thing: Tape(thing, True), no_numbers(60))
        self.refused("again", lambda thing: Tape([1], thing), no_truths())

    def test_up_and_down(self):
        beyond = [0, -1, 9, HUGE, -HUGE]
        self.refused("many", lambda thing: Up(thing), beyond + no_wholes())
        self.refused("many", lambda thing: Up(thing, True), beyond + no_wholes())
        self.refused("hold", lambda thing: Up(1, thing), no_truths())
        self.refused("hold", lambda thing: Up(hold=thing, many=8), no_truths())
        self.refused("many", lambda thing: Down(thing), beyond + no_wholes())

    def test_resample(self):
        beyond = [0, -1, 9, HUGE, -HUGE]
        self.refused("up", lambda thing: Resample(thing, 1, [1]), beyond + no_wholes())
        self.refused("down", lambda thing: Resample(1, thing, [1]), beyond + no_wholes())
        self.refused("numbers", lambda thing: Resample(1, 1, thing), no_numbers(12))

    def test_late_and_begin_of_each_sort(self):
        for name, make in makers():
            self.refused("late", lambda thing: make(late=thing), [-1, 100, HUGE, -HUGE] + no_wholes())
            self.refused("begin", lambda thing: make(begin=thing), [-1, 10000, HUGE, -HUGE] + no_wholes())
            self.refused("late", lambda thing: make(begin=thing, late=thing), [-1, 10000] + no_wholes())


class Order(unittest.TestCase):
    def field(self, sort, *arguments, **more):
        with self.assertRaises(NoNode) as caught:
            sort(*arguments, **more)
        return caught.exception.field

    def test_the_first_in_the_interfaces_order(self):
        wrong = {"late": 100, "begin": -1}
        self.assertEqual(self.field(Gain, None, **wrong), "by")
        self.assertEqual(self.field(Mix, 0, **wrong), "many")
        self.assertEqual(self.field(Clip, None, None, **wrong), "low")
        self.assertEqual(self.field(Clip, 3, 2, **wrong), "high")
        self.assertEqual(self.field(Share, 0, **wrong), "by")
        self.assertEqual(self.field(Own, None, [1], 0, None, **wrong), "takes")
        self.assertEqual(self.field(Own, None, (1,), 0, None, **wrong), "gives")
        self.assertEqual(self.field(Own, None, (1,), 1, None, **wrong), "first")
        self.assertEqual(self.field(Taps, (), **wrong), "numbers")
        self.assertEqual(self.field(Count, None, None, None, **wrong), "first")
        self.assertEqual(self.field(Count, 0, None, None, **wrong), "step")
        self.assertEqual(self.field(Count, 0, 0, None, **wrong), "size")
        self.assertEqual(self.field(Tape, [], 1, **wrong), "numbers")
        self.assertEqual(self.field(Tape, [1], 1, **wrong), "again")
        self.assertEqual(self.field(Up, 0, 0, **wrong), "many")
        self.assertEqual(self.field(Up, 8, 0, **wrong), "hold")
        self.assertEqual(self.field(Down, 9, **wrong), "many")
        self.assertEqual(self.field(Resample, 0, 0, [], **wrong), "up")
        self.assertEqual(self.field(Resample, 1, 0, [], **wrong), "down")
        self.assertEqual(self.field(Resample, 1, 1, [], **wrong), "numbers")
        self.assertEqual(self.field(Resample, 8, 8, [0] * 12, **wrong), "late")
        for sort in (Times, Choose, Latch):
            self.assertEqual(self.field(sort, **wrong), "late")
            self.assertEqual(self.field(sort, begin=-1), "begin")

    def test_whatever_the_order_in_which_they_are_handed_in(self):
        self.assertEqual(self.field(Clip, begin=-1, late=-1, high=None, low=None), "low")
        self.assertEqual(self.field(Count, size=-1, step=None), "step")


class Bounds(unittest.TestCase):
    def test_the_last_ones_that_are_taken(self):
        self.assertEqual(Mix(1).takes(), (1,))
        self.assertEqual(len(Mix(8).takes()), 8)
        self.assertEqual(Clip(4, 4), Clip(4, 4))
        self.assertEqual(Share(1), Share(1))
        self.assertEqual(Own(adding, (1, 8, 1, 8), 8, ()).takes(), (1, 8, 1, 8))
        self.assertEqual(Own(adding, (8,), 1, (0, -1)).takes(), (8,))
        self.assertEqual(Taps([0] * 12), Taps([0] * 12))
        self.assertEqual(Tape([0] * 60, True), Tape([0] * 60, True))
        self.assertEqual(Count(-HUGE, -HUGE, 0), Count(-HUGE, -HUGE))

    def test_a_deed_isnt_looked_at(self):
        for deed in [Odd(), Yes(), None, 0, True]:
            self.assertEqual(Own(deed).takes(), (1,))
