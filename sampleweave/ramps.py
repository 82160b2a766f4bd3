"""Ramps: whole numbers that go evenly from one to another."""

from sampleweave.checks import is_whole_within
from sampleweave.errors import NoSteps

MOST_STEPS = 400


def check_steps(steps):
    if not is_whole_within(steps, 0, MOST_STEPS):
        raise NoSteps("steps are a whole number from 0 to 400")


def ramp(first, last, steps):
    """The list of the numbers behind first, as many as steps, that end at last."""
    check_steps(steps)
    return [first + ((last - first) * k) // steps for k in range(1, steps + 1)]
