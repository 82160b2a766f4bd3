import unittest

from sampleweave.errors import NoSteps, WeaveError
from sampleweave.ramps import ramp
from tests.things import HUGE, no_wholes


class Ramps(unittest.TestCase):
    def test_ordinary(self):
        self.assertEqual(ramp(0, 10, 5), [2, 4, 6, 8, 10])
        self.assertEqual(ramp(0, 10, 4), [2, 5, 7, 10])
        self.assertEqual(ramp(10, 0, 4), [7, 5, 2, 0])
        self.assertEqual(ramp(-3, 4, 3), [-1, 1, 4])
        self.assertEqual(ramp(4, -3, 3), [1, -1, -3])
        self.assertEqual(ramp(0, -1, 3), [-1, -1, -1])
        self.assertEqual(ramp(0, 1, 3), [0, 0, 1])

    def test_no_step_and_one(self):
        self.assertEqual(ramp(5, 9, 0), [])
        self.assertEqual(ramp(5, 5, 0), [])
        self.assertEqual(ramp(5, 9, 1), [9])
        self.assertEqual(ramp(5, -9, 1), [-9])
        self.assertEqual(ramp(5, 5, 1), [5])

    def test_last_is_first(self):
        self.assertEqual(ramp(-7, -7, 6), [-7] * 6)
        self.assertEqual(ramp(HUGE, HUGE, 400), [HUGE] * 400)

    def test_by_names(self):
        self.assertEqual(ramp(steps=2, last=4, first=0), [2, 4])

    def test_each_step_is_the_share_or_one_more(self):
        ends = [0, 1, -1, 7, -400, 401, 1234567, HUGE, -HUGE]
        for first in ends:
            for last in ends:
                for steps in [1, 2, 3, 7, 16, 399, 400]:
                    self.check(first, last, steps)

    def check(self, first, last, steps):
        told = ramp(first, last, steps)
        self.assertEqual(len(told), steps)
        self.assertEqual(told, [first + ((last - first) * k) // steps for k in range(1, steps + 1)])
        self.assertEqual(told[-1], last)
        self.assertGreaterEqual(min(told), min(first, last))
        self.assertLessEqual(max(told), max(first, last))
        share = (last - first) // steps
        for ahead, number in zip([first] + told, told):
            self.assertIn(number - ahead, (share, share + 1))

    def test_a_told_list_is_the_askers(self):
        told = ramp(0, 400, 400)
        told.clear()
        self.assertEqual(ramp(0, 400, 400), list(range(1, 401)))


class Refused(unittest.TestCase):
    def test_beyond_the_bounds(self):
        for steps in [-1, -400, 401, 402, HUGE, -HUGE]:
            with self.assertRaises(NoSteps):
                ramp(0, 1, steps)

    def test_other_kinds(self):
        for steps in no_wholes():
            with self.assertRaises(NoSteps):
                ramp(0, 1, steps)

    def test_it_is_a_weave_error(self):
        with self.assertRaises(WeaveError):
            ramp(0, 1, None)
