"""Engines: they run rounds of a weave, of whatever is handed in, in whatever pieces."""

from sampleweave.checks import is_one_of
from sampleweave.errors import Busy, Stuck, Unknown
from sampleweave.liveness import live
from sampleweave.rounds import counts_by_name
from sampleweave.stands import check_inlet, check_outlet, check_samples, copy_of, fire_once, first_stand, give, queue_on


class Engine:
    """Runs a round as soon as enough waits at each inlet."""

    def __init__(self, weave, *, lates=False):
        told = live(weave, lates=lates)
        if told[0] == "stuck":
            raise Stuck(told[1], told[2])
        self.woven = weave
        self.as_run = lates
        self.shares = counts_by_name(weave)
        # Inlets give all that a round takes ahead of the others; no firing of the row can lack anything by that.
        self.row = [name for name in told[1] if name not in weave.inlets()]
        self.stand = first_stand(weave, lates)
        self.handed = {name: [] for name in weave.inlets()}
        self.ran = 0
        self.logged = []
        self.busy = False

    def hand(self, name, samples):
        self.refuse_while_busy()
        check_inlet(self.woven, name)
        check_samples(samples)
        self.handed[name].extend(samples)
        return self.run_all()

    def settle(self):
        self.refuse_while_busy()
        return self.run_all()

    def take(self, name):
        self.refuse_while_busy()
        check_outlet(self.woven, name)
        told = self.stand.out[name]
        self.stand.out[name] = []
        return told

    def keep(self, name, memory):
        self.refuse_while_busy()
        self.check_kept(name)
        self.stand.memories[name] = memory

    def memory(self, name):
        self.check_kept(name)
        return self.stand.memories[name]

    def rounds(self):
        return self.ran

    def left(self, name):
        check_inlet(self.woven, name)
        return list(self.handed[name])

    def waiting(self, number):
        return queue_on(self.stand, number)

    def weave(self):
        return self.woven

    def log(self):
        return list(self.logged)

    def twin(self):
        other = Engine(self.woven, lates=self.as_run)
        other.stand = copy_of(self.stand)
        other.handed = {name: list(self.handed[name]) for name in self.handed}
        other.ran = self.ran
        other.logged = list(self.logged)
        return other

    def refuse_while_busy(self):
        if self.busy:
            raise Busy("rounds are run")

    def check_kept(self, name):
        if not is_one_of(name, self.stand.memories):
            raise Unknown(name)

    def is_due(self):
        """Whether a round can be run; without inlets there would be no end of rounds."""
        enough = [len(self.handed[name]) >= self.shares[name] for name in self.handed]
        return len(enough) > 0 and all(enough)

    def run_all(self):
        """Run all rounds that can be run, and tell how many they were."""
        if not self.is_due():
            return 0
        ahead = self.ran
        self.logged.append(("begin", ahead))
        self.busy = True
        try:
            while self.is_due():
                self.run_round()
        finally:
            self.busy = False
            self.logged.append(("end", self.ran))
        return self.ran - ahead

    def run_round(self):
        """Run a round beside what is there, so that a deed that looks, or refuses, finds all as ahead of it."""
        stand = copy_of(self.stand)
        further = {}
        for name in self.handed:
            many = self.shares[name]
            give(self.woven, stand, name, self.handed[name][:many])
            further[name] = self.handed[name][many:]
        for name in self.row:
            fire_once(self.woven, stand, name)
        self.stand = stand
        self.handed = further
        self.ran += 1
