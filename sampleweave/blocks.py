"""Blocks: they run a weave by so many rounds at a time, each node firing at a stretch."""

from sampleweave.checks import are_samples
from sampleweave.errors import Busy, NoInlet, NoSample, Tight
from sampleweave.rounds import counts_by_name
from sampleweave.stands import check_inlet, first_stand, run_row
from sampleweave.stretches import stretch


class Blocks:
    """Goes on block by block, each of so many rounds."""

    def __init__(self, weave, rounds, *, lates=False):
        word, told = stretch(weave, rounds, lates=lates)
        if word == "ring":
            raise Tight(told)
        shares = counts_by_name(weave)
        self.woven = weave
        self.row = told
        self.often = {name: shares[name] * rounds for name in told}
        self.stand = first_stand(weave, lates)
        self.ran = 0
        self.busy = False

    def block(self, rows):
        if self.busy:
            raise Busy("a block is run")
        self.check_rows(rows)
        self.busy = True
        try:
            stand, told = run_row(self.woven, self.stand, rows, self.firings_of_a_block())
        finally:
            self.busy = False
        self.stand = stand
        self.ran += 1
        return told

    def blocks(self):
        return self.ran

    def check_rows(self, rows):
        inlets = self.woven.inlets()
        for name in rows:
            check_inlet(name, inlets)
        for name in inlets:
            if name not in rows:
                raise NoInlet(name)
        for name in rows:
            if not are_samples(rows[name]) or len(rows[name]) != self.often[name]:
                raise NoSample("a block is handed in whole: the samples that its rounds take")

    def firings_of_a_block(self):
        """The names of all but inlets, which give at once, each as often as it fires; long where rounds are many."""
        inlets = self.woven.inlets()
        row = []
        for name in self.row:
            if name not in inlets:
                row.extend([name] * self.often[name])
        return row
