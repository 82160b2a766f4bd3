"""Rates: the sorts of nodes that give another number of samples than they take."""

from sampleweave.checks import is_list_of_wholes, is_truth, is_whole_within, need
from sampleweave.firings import run_firing
from sampleweave.keepers import MOST_TAPS
from sampleweave.nodes import Node

MOST_RATE = 8


class Up(Node):
    """Gives many samples for one: the sample and noughts, or the sample each time."""

    def __init__(self, many, hold=False, *, late=0, begin=0):
        need(is_whole_within(many, 1, MOST_RATE), "many")
        need(is_truth(hold), "hold")
        Node.__init__(self, (many, hold), late, begin)
        self.many = many
        self.hold = hold

    def takes(self):
        return (1,)

    def gives(self):
        return self.many

    def late(self):
        return self.late_by

    def begin(self):
        return self.begin_at

    def fresh(self):
        return self.begin_at, None

    def fire(self, memory, rows):
        return run_firing(self, memory, rows)

    def work(self, kept, rows):
        sample = rows[0][0]
        further = sample if self.hold else 0
        return kept, [sample] + [further] * (self.many - 1)

    def begun(self, more):
        return Up(self.many, self.hold, late=self.late_by, begin=self.begin_at + more)

    def __eq__(self, other):
        return isinstance(other, Up) and self.made == other.made

    def __repr__(self):
        return f"Up({self.shown()})"


class Down(Node):
    """Gives one sample for many: the first of them."""

    def __init__(self, many, *, late=0, begin=0):
        need(is_whole_within(many, 1, MOST_RATE), "many")
        Node.__init__(self, (many,), late, begin)
        self.many = many

    def takes(self):
        return (self.many,)

    def gives(self):
        return 1

    def late(self):
        return self.late_by

    def begin(self):
        return self.begin_at

    def fresh(self):
        return self.begin_at, None

    def fire(self, memory, rows):
        return run_firing(self, memory, rows)

    def work(self, kept, rows):
        return kept, [rows[0][0]]

    def begun(self, more):
        return Down(self.many, late=self.late_by, begin=self.begin_at + more)

    def __eq__(self, other):
        return isinstance(other, Down) and self.made == other.made

    def __repr__(self):
        return f"Down({self.shown()})"


class Resample(Node):
    """Up, taps and down in one; it keeps what the taps ask for of the spread samples, eldest first."""

    def __init__(self, up, down, numbers, *, late=0, begin=0):
        need(is_whole_within(up, 1, MOST_RATE), "up")
        need(is_whole_within(down, 1, MOST_RATE), "down")
        need(is_list_of_wholes(numbers, 1, MOST_TAPS), "numbers")
        self.numbers = list(numbers)
        Node.__init__(self, (up, down, self.numbers), late, begin)
        self.up = up
        self.down = down

    def takes(self):
        return (self.down,)

    def gives(self):
        return self.up

    def late(self):
        return self.late_by

    def begin(self):
        return self.begin_at

    def fresh(self):
        return self.begin_at, (0,) * (len(self.numbers) - 1)

    def fire(self, memory, rows):
        return run_firing(self, memory, rows)

    def work(self, kept, rows):
        spread = list(kept)
        for sample in rows[0]:
            spread.extend([sample] + [0] * (self.up - 1))
        # Of the spread samples only every down-th one is asked for, so the others are not worked out.
        given = [self.tapped(spread, len(kept) + self.down * k) for k in range(self.up)]
        return tuple(spread[len(spread) - len(kept):]), given

    def tapped(self, spread, at):
        return sum([number * spread[at - k] for k, number in enumerate(self.numbers)])

    def begun(self, more):
        return Resample(self.up, self.down, self.numbers, late=self.late_by, begin=self.begin_at + more)

    def __eq__(self, other):
        return isinstance(other, Resample) and self.made == other.made

    def __repr__(self):
        return f"Resample({self.shown()})"
