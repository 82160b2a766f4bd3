"""Engines: they run rounds of a weave, of whatever is handed in, in whatever pieces."""

from sampleweave.checks import is_one_of
from sampleweave.errors import Unknown
from sampleweave.runners import Course, Runner
from sampleweave.stands import copy_of, queue_on


class Engine(Runner):
    """Runs a round as soon as enough waits at each inlet."""

    def __init__(self, weave, *, lates=False):
        Runner.__init__(self, Course(weave, lates))
        self.as_run = lates

    def hand(self, name, samples):
        return self.hand_in(name, samples)

    def settle(self):
        return self.run_rest()

    def take(self, name):
        return self.take_out(name)

    def keep(self, name, memory):
        self.refuse_while_busy()
        self.check_kept(name)
        self.course.stand.memories[name] = memory

    def memory(self, name):
        self.check_kept(name)
        return self.course.stand.memories[name]

    def rounds(self):
        return self.ran

    def left(self, name):
        return self.left_at(name)

    def waiting(self, number):
        return queue_on(self.course.stand, number)

    def weave(self):
        return self.course.woven

    def log(self):
        return list(self.logged)

    def twin(self):
        other = Engine(self.course.woven, lates=self.as_run)
        course = other.course
        course.stand = copy_of(self.course.stand)
        other.handed = {name: list(self.handed[name]) for name in self.handed}
        other.out = {name: list(self.out[name]) for name in self.out}
        other.ran = self.ran
        other.logged = list(self.logged)
        return other

    def check_kept(self, name):
        if not is_one_of(name, self.course.stand.memories):
            raise Unknown(name)

    def run_pieces(self, pieces):
        stand, told = self.course.tried(pieces)
        course = self.course
        course.stand = stand
        return told
