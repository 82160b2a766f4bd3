"""Keepers: the sorts of nodes whose firings hang on the firings ahead of them."""

from sampleweave.checks import is_list_of_wholes, is_truth, is_whole, need
from sampleweave.firings import run_firing
from sampleweave.nodes import Node

MOST_TAPS = 12
MOST_TAPED = 60


class Taps(Node):
    """A sum of the last samples, each times its number; it keeps all but the eldest, newest first."""

    def __init__(self, numbers, *, late=0, begin=0):
        need(is_list_of_wholes(numbers, 1, MOST_TAPS), "numbers")
        self.numbers = list(numbers)
        Node.__init__(self, (self.numbers,), late, begin)

    def takes(self):
        return (1,)

    def gives(self):
        return 1

    def late(self):
        return self.late_by

    def begin(self):
        return self.begin_at

    def fresh(self):
        return self.begin_at, (0,) * (len(self.numbers) - 1)

    def fire(self, memory, rows):
        return run_firing(self, memory, rows)

    def work(self, kept, rows):
        samples = (rows[0][0], *kept)
        total = sum([number * sample for number, sample in zip(self.numbers, samples)])
        return samples[:-1], [total]

    def begun(self, more):
        return Taps(self.numbers, late=self.late_by, begin=self.begin_at + more)

    def __eq__(self, other):
        return isinstance(other, Taps) and self.made == other.made

    def __repr__(self):
        return f"Taps({self.shown()})"


class Latch(Node):
    """Keeps the sample of place 1 where that of place 0 is above 0, and gives what it keeps."""

    def __init__(self, *, late=0, begin=0):
        Node.__init__(self, (), late, begin)

    def takes(self):
        return (1, 1)

    def gives(self):
        return 1

    def late(self):
        return self.late_by

    def begin(self):
        return self.begin_at

    def fresh(self):
        return self.begin_at, 0

    def fire(self, memory, rows):
        return run_firing(self, memory, rows)

    def work(self, kept, rows):
        held = rows[1][0] if rows[0][0] > 0 else kept
        return held, [held]

    def begun(self, more):
        return Latch(late=self.late_by, begin=self.begin_at + more)

    def __eq__(self, other):
        return isinstance(other, Latch) and self.made == other.made

    def __repr__(self):
        return f"Latch({self.shown()})"


class Count(Node):
    """Counts on by step from first, perhaps round and round; it keeps the number that comes next."""

    def __init__(self, first=0, step=1, size=0, *, late=0, begin=0):
        need(is_whole(first), "first")
        need(is_whole(step), "step")
        need(is_whole(size) and size >= 0, "size")
        Node.__init__(self, (first, step, size), late, begin)
        self.first = first
        self.step = step
        self.size = size

    def takes(self):
        return (1,)

    def gives(self):
        return 1

    def late(self):
        return self.late_by

    def begin(self):
        return self.begin_at

    def fresh(self):
        return self.begin_at, self.first

    def fire(self, memory, rows):
        return run_firing(self, memory, rows)

    def work(self, kept, rows):
        number = kept % self.size if self.size > 0 else kept
        return kept + self.step, [number]

    def begun(self, more):
        return Count(self.first, self.step, self.size, late=self.late_by, begin=self.begin_at + more)

    def __eq__(self, other):
        return isinstance(other, Count) and self.made == other.made

    def __repr__(self):
        return f"Count({self.shown()})"


class Tape(Node):
    """Gives its numbers one by one, once or again and again; it keeps the place of the next one."""

    def __init__(self, numbers, again=False, *, late=0, begin=0):
        need(is_list_of_wholes(numbers, 1, MOST_TAPED), "numbers")
        need(is_truth(again), "again")
        self.numbers = list(numbers)
        Node.__init__(self, (self.numbers, again), late, begin)
        self.again = again

    def takes(self):
        return (1,)

    def gives(self):
        return 1

    def late(self):
        return self.late_by

    def begin(self):
        return self.begin_at

    def fresh(self):
        return self.begin_at, 0

    def fire(self, memory, rows):
        return run_firing(self, memory, rows)

    def work(self, kept, rows):
        end = len(self.numbers)
        if kept == end and not self.again:
            return kept, [0]
        at = kept % end
        return at + 1, [self.numbers[at]]

    def begun(self, more):
        return Tape(self.numbers, self.again, late=self.late_by, begin=self.begin_at + more)

    def __eq__(self, other):
        return isinstance(other, Tape) and self.made == other.made

    def __repr__(self):
        return f"Tape({self.shown()})"
