"""Looms: the asker fires the nodes of a weave, one by one."""

from sampleweave.checks import is_one_of
from sampleweave.errors import Starved, Unknown
from sampleweave.stands import check_inlet, check_outlet, check_samples, fire_once, first_stand, give, has_all, queue_on


class Loom:
    """Fires just what it is told to fire; its weave may have no counts."""

    def __init__(self, weave, *, lates=False):
        self.woven = weave
        self.stand = first_stand(weave, lates)
        self.fired = {name: 0 for name in weave.names()}

    def hand(self, name, samples):
        check_inlet(name, self.woven.inlets())
        check_samples(samples)
        give(self.woven, self.stand, name, samples)
        self.fired[name] += len(samples)

    def ready(self):
        return [name for name in self.firing() if has_all(self.woven, self.stand, name)]

    def fire(self, name):
        if not is_one_of(name, self.firing()):
            raise Unknown(name)
        if not has_all(self.woven, self.stand, name):
            raise Starved(name)
        fire_once(self.woven, self.stand, name)
        self.fired[name] += 1

    def firings(self, name):
        if not is_one_of(name, self.fired):
            raise Unknown(name)
        return self.fired[name]

    def came(self, name):
        check_outlet(name, self.woven.outlets())
        return list(self.stand.out[name])

    def waiting(self, number):
        return queue_on(self.stand, number)

    def firing(self):
        """The names of all that the asker can fire: inlets give as soon as they are handed something."""
        inlets = self.woven.inlets()
        return [name for name in self.woven.names() if name not in inlets]
