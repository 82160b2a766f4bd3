import unittest

from sampleweave import errors
from sampleweave.errors import Busy, Ringed, Spoilt, WeaveError

PLAIN = ["NoSteps", "TooMany", "NoSample", "NoWire", "NoCount", "Fading", "NoText", "NoRow"]
OF_WHO = ["NoName", "Twice", "Unknown", "Unfed", "NoInlet", "NoOutlet", "Starved", "NoGain", "Unlike", "NotLinear",
          "NoSuch"]
OF_WIRE = ["NoPlace", "NoDelay", "Taken"]
OTHERS = ["NoNode", "Bare", "Clash", "Ringed"]
OF_RING = ["Tight", "Knot", "Short"]


def named(name):
    return getattr(errors, name)


class Places(unittest.TestCase):
    def test_roots(self):
        self.assertEqual(WeaveError.__bases__, (ValueError,))
        self.assertEqual(Busy.__bases__, (RuntimeError,))
        self.assertEqual(Spoilt.__bases__, (ArithmeticError,))

    def test_straight_under_weave_error(self):
        for name in PLAIN + OF_WHO + OF_WIRE + OTHERS:
            self.assertEqual(named(name).__bases__, (WeaveError,), name)

    def test_straight_under_ringed(self):
        for name in OF_RING + ["Stuck"]:
            self.assertEqual(named(name).__bases__, (Ringed,), name)

    def test_no_other_class_is_there(self):
        listed = PLAIN + OF_WHO + OF_WIRE + OTHERS + OF_RING + ["Stuck", "WeaveError", "Busy", "Spoilt"]
        there = [name for name, thing in vars(errors).items() if isinstance(thing, type)]
        self.assertEqual(sorted(there), sorted(listed))


class Fields(unittest.TestCase):
    def test_without_fields(self):
        for name in PLAIN:
            with self.assertRaises(WeaveError):
                raise named(name)("why it is refused")
        with self.assertRaises(Busy):
            raise Busy("rounds are run")

    def test_who(self):
        thing = [1]
        for name in OF_WHO:
            self.assertIs(named(name)(thing).who, thing, name)

    def test_wire(self):
        for name in OF_WIRE:
            self.assertEqual(named(name)(4).wire, 4, name)

    def test_field_who_and_place(self):
        self.assertEqual(errors.NoNode("low").field, "low")
        bare = errors.Bare("mixer", 2)
        self.assertEqual((bare.who, bare.place), ("mixer", 2))

    def test_lists_are_the_errors_own(self):
        walk = [(0, True), (1, False)]
        clash = errors.Clash(walk)
        walk.clear()
        self.assertEqual(clash.walk, [(0, True), (1, False)])
        for name in OF_RING + ["Ringed"]:
            ring = [2, 0]
            error = named(name)(ring)
            ring.clear()
            self.assertEqual(error.ring, [2, 0], name)

    def test_stuck(self):
        fired, ring = [("one", 1)], [3]
        stuck = errors.Stuck(fired, ring)
        fired.clear()
        ring.clear()
        self.assertEqual((stuck.fired, stuck.ring), ([("one", 1)], [3]))


class Spoiling(unittest.TestCase):
    def test_with_a_text(self):
        self.assertEqual(Spoilt("too loud").why, "too loud")
        self.assertEqual(Spoilt(why="too loud").why, "too loud")
        self.assertEqual(str(Spoilt(why="too loud")), "too loud")

    def test_without_a_text(self):
        self.assertEqual(Spoilt().why, "")
        self.assertEqual(Spoilt("").why, "")

    def test_raised(self):
        with self.assertRaises(ArithmeticError) as caught:
            raise Spoilt("again")
        self.assertEqual(caught.exception.why, "again")
        self.assertNotIsInstance(caught.exception, WeaveError)
