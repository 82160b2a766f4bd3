import random
import unittest

from sampleweave.polynomials import added, multiplied
from tests.things import HUGE


def by_chance(chance, longest=9, most=4):
    numbers = [chance.randint(-most, most) for _ in range(chance.randint(0, longest))]
    while numbers and numbers[-1] == 0:
        numbers.pop()
    return numbers


def at(polynomial, place):
    """What a polynomial comes to at some place."""
    return sum(number * place ** power for power, number in enumerate(polynomial))


class Polynomials(unittest.TestCase):
    def test_added(self):
        self.assertEqual(added([1, 2], [3, 4]), [4, 6])
        self.assertEqual(added(other=[5], one=[1, 2, 3]), [6, 2, 3])
        self.assertEqual(added([5], [1, 2, 3]), [6, 2, 3])
        self.assertEqual([added([], []), added([1], []), added([], [0, 2])], [[], [1], [0, 2]])

    def test_sums_that_end_in_noughts(self):
        self.assertEqual(added([1, 2, 3], [4, 5, -3]), [5, 7])
        self.assertEqual(added([1, 2, 3], [4, -2, -3]), [5])
        self.assertEqual(added([1, 0, 3], [-1, 0, -3]), [])
        self.assertEqual(added([0, 0, 3], [0, 0, -3, 1]), [0, 0, 0, 1])

    def test_multiplied(self):
        self.assertEqual(multiplied([1, 1], [1, -1]), [1, 0, -1])
        self.assertEqual(multiplied(other=[3], one=[1, 2, 3]), [3, 6, 9])
        self.assertEqual(multiplied([0, 0, 2], [0, 5]), [0, 0, 0, 10])
        self.assertEqual([multiplied([], []), multiplied([], [1, 2]), multiplied([1, 2], [])], [[], [], []])

    def test_great_numbers(self):
        self.assertEqual(added([HUGE, -HUGE], [HUGE, HUGE]), [2 * HUGE])
        self.assertEqual(multiplied([HUGE, 1], [-HUGE, 1]), [-HUGE * HUGE, 0, 1])
        long = [0] * 1500 + [HUGE]
        self.assertEqual(multiplied(long, long), [0] * 3000 + [HUGE * HUGE])

    def test_by_chance(self):
        chance = random.Random(91)
        for _ in range(500):
            one, other = by_chance(chance), by_chance(chance)
            total, product = added(one, other), multiplied(one, other)
            self.assertEqual((added(other, one), multiplied(other, one)), (total, product))
            for told in (total, product):
                self.assertIsInstance(told, list)
                self.assertTrue(not told or told[-1] != 0)
            for place in (0, 1, -1, 7, 1000):
                self.assertEqual(at(total, place), at(one, place) + at(other, place))
                self.assertEqual(at(product, place), at(one, place) * at(other, place))

    def test_what_is_handed_in_stays(self):
        one, other = [1, 2, 3], [4, 5]
        for told in (added(one, other), added(one, []), added([], one), multiplied(one, [1]), multiplied([1], one)):
            told.append(7)
            self.assertEqual((one, other), ([1, 2, 3], [4, 5]))
        multiplied(one, other).clear()
        self.assertEqual((one, other), ([1, 2, 3], [4, 5]))
        self.assertEqual((added(one, one), multiplied(one, one), one), ([2, 4, 6], [1, 4, 10, 12, 9], [1, 2, 3]))
