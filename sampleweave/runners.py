"""Runners: what engines and consoles have in common: what waits, what has come out, the log, and being busy."""

from sampleweave.errors import Busy
from sampleweave.liveness import live_row
from sampleweave.rounds import counts_by_name
from sampleweave.stands import check_inlet, check_outlet, check_samples, first_stand, run_row


class Course:
    """A weave that can go, and how it stands between two rounds."""

    def __init__(self, weave, lates):
        inlets = weave.inlets()
        # Inlets give all that a round takes ahead of the others; no firing of the row can lack anything by that.
        self.row = [name for name in live_row(weave, lates) if name not in inlets]
        self.woven = weave
        self.shares = counts_by_name(weave)
        self.stand = first_stand(weave, lates)

    def tried(self, pieces):
        """The stand behind one more round, in which the inlets give their pieces, and what comes out by it."""
        return run_row(self.woven, self.stand, pieces, self.row)


class Runner:
    """Runs a round as soon as enough waits at each inlet; the classes below it tell how one is run."""

    def __init__(self, course):
        self.course = course
        self.handed = {name: [] for name in course.woven.inlets()}
        self.out = {name: [] for name in course.woven.outlets()}
        self.ran = 0
        self.logged = []
        self.busy = False

    def run_pieces(self, pieces):
        """Run a round, and tell what came out by name; where it is refused, nothing has changed."""
        raise NotImplementedError("each runner runs its rounds in its own way")

    def refuse_while_busy(self):
        if self.busy:
            raise Busy("rounds are run")

    def hand_in(self, name, samples):
        self.refuse_while_busy()
        check_inlet(name, self.handed)
        check_samples(samples)
        self.handed[name].extend(samples)
        return self.run_all()

    def run_rest(self):
        self.refuse_while_busy()
        return self.run_all()

    def take_out(self, name):
        self.refuse_while_busy()
        check_outlet(name, self.out)
        told = self.out[name]
        self.out[name] = []
        return told

    def left_at(self, name):
        check_inlet(name, self.handed)
        return list(self.handed[name])

    def is_due(self):
        """Whether a round can be run; without inlets there would be no end of rounds."""
        enough = [len(self.handed[name]) >= self.course.shares[name] for name in self.handed]
        return len(enough) > 0 and all(enough)

    def run_all(self):
        """Run all rounds that can be run, and tell how many they were."""
        if not self.is_due():
            return 0
        ahead = self.ran
        self.logged.append(("begin", ahead))
        self.busy = True
        try:
            while self.is_due():
                self.run_round()
        finally:
            self.busy = False
            self.logged.append(("end", self.ran))
        return self.ran - ahead

    def run_round(self):
        shares = self.course.shares
        told = self.run_pieces({name: self.handed[name][:shares[name]] for name in self.handed})
        for name in told:
            self.out[name].extend(told[name])
        self.handed = {name: self.handed[name][shares[name]:] for name in self.handed}
        self.ran += 1
