import copy
import random
import unittest

from sampleweave.keepers import Taps
from sampleweave.rates import Down, Resample, Up
from tests.things import HUGE, fire_all


def pieces(stream, many):
    """The stream as rows for a node of one place that takes so many."""
    return [[stream[at:at + many]] for at in range(0, len(stream), many)]


def streamed(node, stream):
    """What a fresh node of one place gives of a stream."""
    return fire_all(node, node.fresh(), pieces(stream, node.takes()[0]))[1]


def in_three(up, down, numbers, stream):
    return streamed(Down(down), streamed(Taps(numbers), streamed(Up(up), stream)))


class Ups(unittest.TestCase):
    def test_takes_and_gives(self):
        for many in range(1, 9):
            for node in (Up(many), Up(many, False), Up(many, True), Up(hold=True, many=many)):
                self.assertEqual((node.takes(), node.gives()), ((1,), many))

    def test_noughts_behind_the_sample(self):
        for many in range(1, 9):
            expected = [5] + [0] * (many - 1) + [-HUGE] + [0] * (many - 1) + [0] * many
            for node in (Up(many), Up(many, False), Up(many, hold=False)):
                self.assertEqual(streamed(node, [5, -HUGE, 0]), expected)

    def test_held(self):
        for many in range(1, 9):
            self.assertEqual(streamed(Up(many, True), [5, -HUGE, 0]), [5] * many + [-HUGE] * many + [0] * many)

    def test_mute(self):
        self.assertEqual(streamed(Up(3, True, begin=2), [5, 6, 7]), [0] * 6 + [7] * 3)
        self.assertEqual(streamed(Up(2, begin=1), [5, 6]), [0, 0, 6, 0])


class Downs(unittest.TestCase):
    def test_takes_and_gives(self):
        for many in range(1, 9):
            self.assertEqual((Down(many).takes(), Down(many=many).gives()), ((many,), 1))

    def test_the_first_of_them(self):
        stream = [HUGE - k * k for k in range(48)]
        for many in range(1, 9):
            self.assertEqual(streamed(Down(many), stream[:many * 6]), stream[:many * 6:many])

    def test_mute(self):
        self.assertEqual(streamed(Down(2, begin=1), [1, 2, 3, 4]), [0, 3])


class Resampled(unittest.TestCase):
    def test_takes_and_gives(self):
        for up in range(1, 9):
            for down in range(1, 9):
                node = Resample(up, down, [1])
                self.assertEqual((node.takes(), node.gives()), ((down,), up))

    def test_as_up_taps_and_down(self):
        chance = random.Random(5)
        for up in range(1, 9):
            for down in range(1, 9):
                for size in (1, 2, 3, 7, 12):
                    numbers = [chance.randint(-9, 9) for _ in range(size)]
                    stream = [chance.randint(-99, 99) for _ in range(down * 6)]
                    told = streamed(Resample(up, down, numbers), stream)
                    self.assertEqual(told, in_three(up, down, numbers, stream), (up, down, numbers))

    def test_large_numbers(self):
        numbers = [HUGE, -HUGE, 1]
        stream = [HUGE, 1, -HUGE, 0, 5, HUGE]
        self.assertEqual(streamed(Resample(3, 2, numbers), stream), in_three(3, 2, numbers, stream))

    def test_by_hand(self):
        self.assertEqual(streamed(Resample(1, 1, [1, 10]), [1, 2, 3]), [1, 12, 23])
        self.assertEqual(streamed(Resample(2, 1, [1, 10]), [1, 2]), [1, 10, 2, 20])
        self.assertEqual(streamed(Resample(1, 2, [1, 10]), [1, 2, 3, 4]), [1, 23])

    def test_mute_firings_keep_nothing(self):
        told = streamed(Resample(2, 3, [1, 10, 100], begin=2), [9] * 6 + [1, 2, 3, 4, 5, 6])
        self.assertEqual(told, [0] * 4 + streamed(Resample(2, 3, [1, 10, 100]), [1, 2, 3, 4, 5, 6]))

    def test_the_list_changed_behind_the_making(self):
        numbers = [1, 10]
        node = Resample(2, 1, numbers)
        numbers[0] = 50
        numbers.append(4)
        self.assertEqual(streamed(node, [1, 2]), [1, 10, 2, 20])
        self.assertEqual(node, Resample(2, 1, [1, 10]))
        self.assertEqual(repr(node), "Resample(2, 1, [1, 10])")
        self.assertEqual(numbers, [50, 10, 4])

    def test_the_list_is_not_shared_by_nodes(self):
        node = Resample(2, 1, [1, 10])
        later = node.begun(1)
        self.assertEqual(streamed(later, [7, 1]), [0, 0, 1, 10])
        self.assertEqual(streamed(node, [1]), [1, 10])


class EachOfThem(unittest.TestCase):
    def each(self):
        for many in range(1, 9):
            yield from (Up(many), Up(many, False), Up(many, True), Down(many))
            yield Resample(many, 9 - many, list(range(1, many + 5)))

    def test_again_from_an_elder_memory(self):
        for node in self.each():
            rows = pieces([7 * k - 40 for k in range(node.takes()[0] * 5)], node.takes()[0])
            memories, told = [node.fresh()], []
            for row in rows:
                kept = copy.deepcopy((row, memories[-1]))
                memory, given = node.fire(memories[-1], row)
                self.assertEqual((row, memories[-1]), kept, node)
                memories.append(memory)
                told.append(list(given))
                given.append(1)
                given[0] = HUGE
            for at in reversed(range(5)):
                self.assertEqual(node.fire(memories[at], rows[at]), (memories[at + 1], told[at]), node)

    def test_rows_changed_behind_the_firing(self):
        for node in self.each():
            row = [list(range(1, node.takes()[0] + 1))]
            memory = node.fire(node.fresh(), row)[0]
            kept = node.fire(memory, row)[1]
            later = copy.deepcopy(row)
            row[0][0] = HUGE
            row.clear()
            self.assertEqual(node.fire(memory, later)[1], kept, node)

    def test_begun(self):
        for node in self.each():
            self.assertEqual(node.begun(4).begin(), 4)
            self.assertEqual(node.begun(4).begun(0), node.begun(3).begun(1))
            self.assertEqual(node.begin(), 0)
