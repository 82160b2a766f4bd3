"""Consoles: engines whose weave can be changed between rounds, without a jump."""

from sampleweave.errors import Fading, NoGain
from sampleweave.likeness import check_like
from sampleweave.nodes import Gain
from sampleweave.ramps import check_steps
from sampleweave.runners import Course, Runner

OVER = 16


def mixed(olds, news, done, many):
    """What comes out of a fade of so many samples, so many of which came out ahead of these."""
    told = []
    for at, (old, new) in enumerate(zip(olds, news), start=done + 1):
        told.append(old + ((new - old) * at) // many)
    return told


class Console(Runner):
    """Runs rounds as an engine does; while a fade goes on, of the elder weave, too."""

    def __init__(self, weave, *, lates=False):
        Runner.__init__(self, Course(weave, lates))
        self.as_run = lates
        self.elder = None
        self.fade_rounds = 0
        self.faded = 0

    def hand(self, name, samples):
        return self.hand_in(name, samples)

    def settle(self):
        return self.run_rest()

    def take(self, name):
        return self.take_out(name)

    def left(self, name):
        return self.left_at(name)

    def rounds(self):
        return self.ran

    def log(self):
        return list(self.logged)

    def weave(self):
        return self.course.woven

    def turn(self, name, by, *, over=OVER):
        self.refuse_while_busy()
        gain = self.gain_called(name)
        memories = self.course.stand.memories
        memories[name] = gain.turned(memories[name], by, over)

    def fade(self, weave, *, over=OVER):
        self.refuse_while_busy()
        if self.elder is not None:
            raise Fading("another fade goes on")
        check_steps(over)
        course = Course(weave, self.as_run)
        check_like(self.course.woven, weave)
        if over > 0:
            self.elder = self.course
        self.course = course
        self.fade_rounds = over
        self.faded = 0

    def factor(self, name):
        gain = self.gain_called(name)
        return gain.factor(self.course.stand.memories[name])

    def fading(self):
        return self.fade_rounds - self.faded

    def gain_called(self, name):
        node = self.course.woven.node(name)
        if not isinstance(node, Gain):
            raise NoGain(name)
        return node

    def run_pieces(self, pieces):
        course = self.course
        elder = self.elder
        stand, news = course.tried(pieces)
        if elder is None:
            course.stand = stand
            return news
        elder_stand, olds = elder.tried(pieces)
        # Nothing is kept until both rounds have come to their ends: a deed of either may refuse.
        course.stand = stand
        elder.stand = elder_stand
        told = {name: self.mixed_at(name, olds[name], news[name]) for name in news}
        self.note_faded()
        return told

    def mixed_at(self, name, olds, news):
        share = self.course.shares[name]
        return mixed(olds, news, self.faded * share, self.fade_rounds * share)

    def note_faded(self):
        self.faded += 1
        if self.faded == self.fade_rounds:
            self.elder = None
