import unittest

from sampleweave.keepers import Count, Latch, Tape, Taps
from tests.things import HUGE, fire_all, given_by


class Tapping(unittest.TestCase):
    def test_noughts_ahead_of_the_first_sample(self):
        self.assertEqual(given_by(Taps([1, 10, 100]), [1, 2, 3, 4]), [1, 12, 123, 234])

    def test_one_number(self):
        self.assertEqual(given_by(Taps([-3]), [1, -2, HUGE]), [-3, 6, -3 * HUGE])

    def test_twelve_numbers(self):
        numbers = list(range(1, 13))
        self.assertEqual(given_by(Taps(numbers), [1] + [0] * 13), numbers + [0, 0])

    def test_noughts_among_the_numbers(self):
        self.assertEqual(given_by(Taps([0, 0, 1]), [5, 6, 7, 8]), [0, 0, 5, 6])
        self.assertEqual(given_by(Taps([0]), [5, 6]), [0, 0])

    def test_large_and_negative(self):
        self.assertEqual(given_by(Taps([HUGE, -HUGE]), [1, -1, HUGE]), [HUGE, -2 * HUGE, HUGE * HUGE + HUGE])

    def test_the_list_changed_behind_the_making(self):
        numbers = [1, 10]
        node = Taps(numbers)
        numbers[0] = 5
        numbers.append(7)
        self.assertEqual(given_by(node, [1, 2, 3]), [1, 12, 23])
        self.assertEqual(node, Taps([1, 10]))
        self.assertEqual(repr(node), "Taps([1, 10])")

    def test_what_mute_firings_take_is_lost(self):
        self.assertEqual(given_by(Taps([1, 10, 100], begin=2), [7, 8, 1, 2, 3]), [0, 0, 1, 12, 123])

    def test_the_list_is_not_changed(self):
        numbers = [1, 10]
        given_by(Taps(numbers=numbers), [1, 2, 3])
        self.assertEqual(numbers, [1, 10])


class Latching(unittest.TestCase):
    def test_at_first_and_kept(self):
        switch = [0, -1, 1, 0, -5, HUGE, 0, 2]
        samples = [9, 8, 7, 6, 5, -HUGE, 3, 0]
        self.assertEqual(given_by(Latch(), switch, samples), [0, 0, 7, 7, 7, -HUGE, -HUGE, 0])

    def test_a_mute_firing_keeps_nothing(self):
        self.assertEqual(given_by(Latch(begin=1), [1, 0, 1, 0], [9, 8, 7, 6]), [0, 0, 7, 7])


class Counting(unittest.TestCase):
    def count(self, node, many):
        return given_by(node, [many - firing for firing in range(many)])

    def test_left_out(self):
        self.assertEqual(self.count(Count(), 4), [0, 1, 2, 3])
        self.assertEqual(self.count(Count(5), 3), [5, 6, 7])
        self.assertEqual(self.count(Count(5, 3), 3), [5, 8, 11])

    def test_steps_of_nought_and_below(self):
        self.assertEqual(self.count(Count(5, 0), 3), [5, 5, 5])
        self.assertEqual(self.count(Count(1, -2), 4), [1, -1, -3, -5])

    def test_with_a_size(self):
        self.assertEqual(self.count(Count(0, 1, 3), 7), [0, 1, 2, 0, 1, 2, 0])
        self.assertEqual(self.count(Count(0, -1, 3), 5), [0, 2, 1, 0, 2])
        self.assertEqual(self.count(Count(7, 4, 5), 4), [2, 1, 0, 4])
        self.assertEqual(self.count(Count(-1, 2, 5), 4), [4, 1, 3, 0])
        self.assertEqual(self.count(Count(6, 9, 1), 3), [0, 0, 0])

    def test_large(self):
        self.assertEqual(self.count(Count(HUGE, HUGE), 3), [HUGE, 2 * HUGE, 3 * HUGE])
        self.assertEqual(self.count(Count(-1, -1, HUGE), 2), [HUGE - 1, HUGE - 2])

    def test_by_names(self):
        self.assertEqual(self.count(Count(size=4, step=3, first=2), 4), [2, 1, 0, 3])

    def test_a_mute_firing_does_not_count(self):
        self.assertEqual(self.count(Count(4, 2, begin=2), 5), [0, 0, 4, 6, 8])

    def test_what_it_takes_has_no_bearing(self):
        self.assertEqual(given_by(Count(), [HUGE, -1, 0]), [0, 1, 2])


class Taping(unittest.TestCase):
    def test_once(self):
        self.assertEqual(given_by(Tape([4, -5, HUGE]), [1] * 6), [4, -5, HUGE, 0, 0, 0])
        self.assertEqual(given_by(Tape([4], False), [0] * 3), [4, 0, 0])

    def test_again(self):
        self.assertEqual(given_by(Tape([4, -5, 6], True), [1] * 8), [4, -5, 6, 4, -5, 6, 4, -5])
        self.assertEqual(given_by(Tape(again=True, numbers=[9]), [3, 2, 1]), [9, 9, 9])

    def test_sixty(self):
        numbers = list(range(100, 160))
        self.assertEqual(given_by(Tape(numbers), [0] * 62), numbers + [0, 0])
        self.assertEqual(given_by(Tape(numbers, True), [0] * 122), numbers * 2 + [100, 101])

    def test_the_list_changed_behind_the_making(self):
        for again in (True, False):
            numbers = [1, 2]
            node = Tape(numbers, again)
            memory = fire_all(node, node.fresh(), [[[0]]])[0]
            numbers[1] = 50
            numbers.append(3)
            self.assertEqual(fire_all(node, memory, [[[0]], [[0]]])[1], [2, 1 if again else 0])
            self.assertEqual(node, Tape([1, 2], again))

    def test_a_mute_firing_does_not_wind(self):
        self.assertEqual(given_by(Tape([7, 8], begin=1), [5] * 4), [0, 7, 8, 0])

    def test_what_it_takes_has_no_bearing(self):
        self.assertEqual(given_by(Tape([1, 2]), [HUGE, -1]), [1, 2])
