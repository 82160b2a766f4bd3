"""What several tests need: things of wrong kinds, one node of each sort, and firings in a row."""

import unittest

from sampleweave.keepers import Count, Latch, Tape, Taps
from sampleweave.nodes import Choose, Clip, Gain, Mix, Own, Share, Times
from sampleweave.rates import Down, Resample, Up

HUGE = 10 ** 59 + 7


class Odd:
    """A thing that can be neither compared nor tested; whoever looks closer than at its kind fails."""

    def __eq__(self, other):
        raise AssertionError("compared")

    def __lt__(self, other):
        raise AssertionError("compared")

    def __bool__(self):
        raise AssertionError("tested")

    def __len__(self):
        raise AssertionError("measured")

    def __iter__(self):
        raise AssertionError("iterated")

    def __repr__(self):
        raise AssertionError("shown")


class Yes:
    """A thing that says of itself that it is equal to everything."""

    def __eq__(self, other):
        return True


def no_wholes():
    return [True, False, None, "", "1", "one", b"1", [], [1], (), (1,), {}, {1: 1}, {1}, object(), len, Odd(), Yes()]


def no_truths():
    return [0, 1, 2, -1, None, "", "True", [], [True], (), (True,), {}, object(), Odd(), Yes()]


def adding(memory, rows):
    """A deed: gives the sum of all that it was ever handed."""
    total = memory + sum(sum(row) for row in rows)
    return total, [total]


def makers():
    """For each sort that fires a name and a function that makes a node of it of late and begin."""
    return [
        ("Gain", lambda **more: Gain(3, **more)),
        ("Mix", lambda **more: Mix(3, **more)),
        ("Times", lambda **more: Times(**more)),
        ("Clip", lambda **more: Clip(-5, 5, **more)),
        ("Share", lambda **more: Share(3, **more)),
        ("Choose", lambda **more: Choose(**more)),
        ("Own", lambda **more: Own(adding, (1, 2), **more)),
        ("Taps", lambda **more: Taps([1, 2, 3], **more)),
        ("Latch", lambda **more: Latch(**more)),
        ("Count", lambda **more: Count(4, 3, **more)),
        ("Tape", lambda **more: Tape([7, 8], **more)),
        ("Up", lambda **more: Up(3, True, **more)),
        ("Down", lambda **more: Down(3, **more)),
        ("Resample", lambda **more: Resample(3, 2, [1, 10, 100, 1000], **more)),
    ]


def some_rows(node, firing):
    """Rows for the firing of that number, unlike those of other firings."""
    return [[(firing + 1) * (place + 2) + at for at in range(many)] for place, many in enumerate(node.takes())]


def fire_all(node, memory, all_rows):
    """The memory behind firings in a row, and what all of them gave."""
    given = []
    for rows in all_rows:
        memory, told = node.fire(memory, rows)
        given.extend(told)
    return memory, given


def given_by(node, *streams):
    """What a fresh node that takes one sample a place gives of a stream for each place."""
    return fire_all(node, node.fresh(), [[[sample] for sample in row] for row in zip(*streams)])[1]


class Refusing(unittest.TestCase):
    """Tests of refusals with their fields."""

    def refused(self, error, ask, **fields):
        """The refusal with which it is refused, of just this class, and whose fields are just these things."""
        with self.assertRaises(error) as caught:
            ask()
        self.assertIs(type(caught.exception), error)
        for field, thing in fields.items():
            self.assertIs(getattr(caught.exception, field), thing)
        return caught.exception
