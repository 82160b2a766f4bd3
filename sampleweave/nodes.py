"""Nodes: what all sorts have in common, and the sorts that scale, mix, cut, choose and do as told."""

from sampleweave.checks import are_wholes, are_wholes_within, is_whole, is_whole_within, need
from sampleweave.firings import run_firing
from sampleweave.ramps import ramp

MOST_LATE = 99
MOST_BEGIN = 9999
MOST_MIXED = 8
MOST_OWN_PLACES = 4
MOST_OWN_SAMPLES = 8


class Node:
    """What all sorts have in common; no node is made of this class alone."""

    def __init__(self, arguments, late, begin):
        # The sorts look at their own arguments ahead of this, so these two are refused last.
        need(is_whole_within(late, 0, MOST_LATE), "late")
        need(is_whole_within(begin, 0, MOST_BEGIN), "begin")
        self.made = (*arguments, late, begin)
        self.late_by = late
        self.begin_at = begin

    def takes(self):
        raise NotImplementedError("each sort tells what it takes")

    def gives(self):
        raise NotImplementedError("each sort tells what it gives")

    def late(self):
        raise NotImplementedError("each sort tells how late it is")

    def begin(self):
        raise NotImplementedError("each sort tells when it begins")

    def fresh(self):
        raise NotImplementedError("each sort that fires tells what it keeps at first")

    def fire(self, memory, rows):
        raise NotImplementedError("each sort that fires does so in its own way")

    def begun(self, more):
        raise NotImplementedError("each sort that fires makes a node of its own sort")

    def shown(self):
        """What stands between the brackets of a node's repr."""
        parts = [repr(thing) for thing in self.made[:-2]]
        if self.late_by > 0:
            parts.append(f"late={self.late_by}")
        if self.begin_at > 0:
            parts.append(f"begin={self.begin_at}")
        return ", ".join(parts)


class Inlet(Node):
    """Gives what is handed in there."""

    def __init__(self):
        Node.__init__(self, (), 0, 0)

    def takes(self):
        return ()

    def gives(self):
        return 1

    def late(self):
        return 0

    def begin(self):
        return 0

    def __eq__(self, other):
        return isinstance(other, Inlet) and self.made == other.made

    def __repr__(self):
        return "Inlet()"


class Outlet(Node):
    """Takes what comes out there."""

    def __init__(self):
        Node.__init__(self, (), 0, 0)

    def takes(self):
        return (1,)

    def gives(self):
        return 0

    def late(self):
        return 0

    def begin(self):
        return 0

    def __eq__(self, other):
        return isinstance(other, Outlet) and self.made == other.made

    def __repr__(self):
        return "Outlet()"


class Gain(Node):
    """The sample times the factor; it keeps (where the factor stands, the factors that come next)."""

    def __init__(self, by, *, late=0, begin=0):
        need(is_whole(by), "by")
        Node.__init__(self, (by,), late, begin)
        self.by = by

    def takes(self):
        return (1,)

    def gives(self):
        return 1

    def late(self):
        return self.late_by

    def begin(self):
        return self.begin_at

    def fresh(self):
        return self.begin_at, (self.by, ())

    def fire(self, memory, rows):
        return run_firing(self, memory, rows)

    def work(self, kept, rows):
        stands, coming = kept
        if coming:
            stands = coming[0]
        return (stands, coming[1:]), [rows[0][0] * stands]

    def factor(self, memory):
        mutes, (stands, coming) = memory
        return stands

    def turned(self, memory, by, steps):
        mutes, (stands, coming) = memory
        ahead = ramp(stands, by, steps)
        if not ahead:
            stands = by
        return mutes, (stands, tuple(ahead))

    def begun(self, more):
        return Gain(self.by, late=self.late_by, begin=self.begin_at + more)

    def __eq__(self, other):
        return isinstance(other, Gain) and self.made == other.made

    def __repr__(self):
        return f"Gain({self.shown()})"


class Mix(Node):
    """The sum of the samples of all places."""

    def __init__(self, many, *, late=0, begin=0):
        need(is_whole_within(many, 1, MOST_MIXED), "many")
        Node.__init__(self, (many,), late, begin)
        self.many = many

    def takes(self):
        return (1,) * self.many

    def gives(self):
        return 1

    def late(self):
        return self.late_by

    def begin(self):
        return self.begin_at

    def fresh(self):
        return self.begin_at, None

    def fire(self, memory, rows):
        return run_firing(self, memory, rows)

    def work(self, kept, rows):
        return kept, [sum([row[0] for row in rows])]

    def begun(self, more):
        return Mix(self.many, late=self.late_by, begin=self.begin_at + more)

    def __eq__(self, other):
        return isinstance(other, Mix) and self.made == other.made

    def __repr__(self):
        return f"Mix({self.shown()})"


class Times(Node):
    """The sample of the one place times that of the other."""

    def __init__(self, *, late=0, begin=0):
        Node.__init__(self, (), late, begin)

    def takes(self):
        return (1, 1)

    def gives(self):
        return 1

    def late(self):
        return self.late_by

    def begin(self):
        return self.begin_at

    def fresh(self):
        return self.begin_at, None

    def fire(self, memory, rows):
        return run_firing(self, memory, rows)

    def work(self, kept, rows):
        return kept, [rows[0][0] * rows[1][0]]

    def begun(self, more):
        return Times(late=self.late_by, begin=self.begin_at + more)

    def __eq__(self, other):
        return isinstance(other, Times) and self.made == other.made

    def __repr__(self):
        return f"Times({self.shown()})"


class Clip(Node):
    """The sample, but never below low or above high."""

    def __init__(self, low, high, *, late=0, begin=0):
        need(is_whole(low), "low")
        need(is_whole(high) and low <= high, "high")
        Node.__init__(self, (low, high), late, begin)
        self.low = low
        self.high = high

    def takes(self):
        return (1,)

    def gives(self):
        return 1

    def late(self):
        return self.late_by

    def begin(self):
        return self.begin_at

    def fresh(self):
        return self.begin_at, None

    def fire(self, memory, rows):
        return run_firing(self, memory, rows)

    def work(self, kept, rows):
        return kept, [max(self.low, min(self.high, rows[0][0]))]

    def begun(self, more):
        return Clip(self.low, self.high, late=self.late_by, begin=self.begin_at + more)

    def __eq__(self, other):
        return isinstance(other, Clip) and self.made == other.made

    def __repr__(self):
        return f"Clip({self.shown()})"


class Share(Node):
    """The sample by a number above 0, rounded down."""

    def __init__(self, by, *, late=0, begin=0):
        need(is_whole(by) and by > 0, "by")
        Node.__init__(self, (by,), late, begin)
        self.by = by

    def takes(self):
        return (1,)

    def gives(self):
        return 1

    def late(self):
        return self.late_by

    def begin(self):
        return self.begin_at

    def fresh(self):
        return self.begin_at, None

    def fire(self, memory, rows):
        return run_firing(self, memory, rows)

    def work(self, kept, rows):
        return kept, [rows[0][0] // self.by]

    def begun(self, more):
        return Share(self.by, late=self.late_by, begin=self.begin_at + more)

    def __eq__(self, other):
        return isinstance(other, Share) and self.made == other.made

    def __repr__(self):
        return f"Share({self.shown()})"


class Choose(Node):
    """The sample of place 1 where that of place 0 is above 0, else that of place 2."""

    def __init__(self, *, late=0, begin=0):
        Node.__init__(self, (), late, begin)

    def takes(self):
        return (1, 1, 1)

    def gives(self):
        return 1

    def late(self):
        return self.late_by

    def begin(self):
        return self.begin_at

    def fresh(self):
        return self.begin_at, None

    def fire(self, memory, rows):
        return run_firing(self, memory, rows)

    def work(self, kept, rows):
        chosen = 1 if rows[0][0] > 0 else 2
        return kept, [rows[chosen][0]]

    def begun(self, more):
        return Choose(late=self.late_by, begin=self.begin_at + more)

    def __eq__(self, other):
        return isinstance(other, Choose) and self.made == other.made

    def __repr__(self):
        return f"Choose({self.shown()})"


class Own(Node):
    """Does as the asker's deed tells; it keeps what the deed told as its memory."""

    def __init__(self, deed, takes=(1,), gives=1, first=0, *, late=0, begin=0):
        need(isinstance(takes, tuple) and 1 <= len(takes) <= MOST_OWN_PLACES, "takes")
        need(are_wholes_within(takes, 1, MOST_OWN_SAMPLES), "takes")
        need(is_whole_within(gives, 1, MOST_OWN_SAMPLES), "gives")
        need(is_whole(first) or isinstance(first, tuple) and are_wholes(first), "first")
        Node.__init__(self, (deed, takes, gives, first), late, begin)
        self.deed = deed
        self.taken = takes
        self.given = gives
        self.first = first

    def takes(self):
        return self.taken

    def gives(self):
        return self.given

    def late(self):
        return self.late_by

    def begin(self):
        return self.begin_at

    def fresh(self):
        return self.begin_at, self.first

    def fire(self, memory, rows):
        return run_firing(self, memory, rows)

    def work(self, kept, rows):
        deed = self.deed
        # Copies both ways, so that neither the deed nor the asker can change the other's lists.
        behind, given = deed(kept, [list(row) for row in rows])
        return behind, list(given)

    def begun(self, more):
        return Own(self.deed, self.taken, self.given, self.first, late=self.late_by, begin=self.begin_at + more)

    def __eq__(self, other):
        return isinstance(other, Own) and self.made == other.made

    def __repr__(self):
        return f"Own({self.shown()})"
