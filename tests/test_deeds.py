"""Deeds that refuse, and that ask the engine that fires them."""

import random
import unittest

from sampleweave.engines import Engine
from sampleweave.errors import Busy, NoInlet, NoOutlet, NoWire, Spoilt, Unknown
from sampleweave.keepers import Taps
from sampleweave.nodes import Gain, Inlet, Mix, Outlet, Own
from sampleweave.rates import Down, Up
from sampleweave.rounds import counts
from tests.test_engines import live_weaves, streams_for
from tests.woven import chain, echo, weave_of


class Moody:
    """A deed that tells the sum so far, and refuses at the calls of these numbers, from 0 on."""

    def __init__(self, *refused):
        self.refused = refused
        self.calls = 0
        self.raised = []

    def __call__(self, memory, rows):
        self.calls += 1
        if self.calls - 1 in self.refused:
            self.raised.append(Spoilt(f"call {self.calls - 1}"))
            raise self.raised[-1]
        total = memory + sum(sum(row) for row in rows)
        return total, [total]


def looks(engine):
    """All that can be looked at without a change, but the log."""
    weave = engine.weave()
    return ([engine.waiting(number) for number in range(len(weave.wires()))],
            [engine.memory(name) for name in weave.names() if name not in weave.inlets() + weave.outlets()],
            [engine.left(name) for name in weave.inlets()], engine.rounds())


def taken(engine):
    return [engine.take(name) for name in engine.weave().outlets()]


def stirred(deed):
    """A weave of several counts in which a deed is fired in the midst of a round, and thrice in each."""
    return weave_of({"in": Inlet(), "taps": Taps([1, 2]), "up": Up(3, True), "own": Own(deed, (1, 1)), "down": Down(3),
                     "out": Outlet(), "early": Outlet()},
                    ["in taps 0 0", "taps up 0 0", "up own 0 0", "own own 1 1", "own down 0 0", "down out 0 0",
                     "up early 0 2"])


class Spoiling(unittest.TestCase):
    def test_the_round_is_not_run(self):
        for call in range(3):
            deed = Moody(call)
            engine = Engine(stirred(deed))
            with self.assertRaises(Spoilt) as caught:
                engine.hand("in", [5])
            self.assertIs(caught.exception, deed.raised[0])
            fresh = Engine(stirred(Moody()))
            self.assertEqual(engine.left("in"), [5])
            self.assertEqual(looks(engine)[:2], looks(fresh)[:2])
            self.assertEqual((engine.rounds(), engine.log()), (0, [("begin", 0), ("end", 0)]))
            self.assertEqual(taken(engine), [[], []])

    def test_settled_later_all_goes_on(self):
        for call in range(12):
            engine, other = Engine(stirred(Moody(call))), Engine(stirred(Moody()))
            with self.assertRaises(Spoilt):
                engine.hand("in", [5, 6, 7, 8])
            self.assertEqual(engine.rounds(), call // 3)
            self.assertEqual(engine.left("in"), [5, 6, 7, 8][call // 3:])
            ahead = Engine(stirred(Moody()))
            ahead.hand("in", [5, 6, 7, 8][:call // 3])
            self.assertEqual(looks(engine)[:2], looks(ahead)[:2])
            self.assertEqual(engine.settle(), 4 - call // 3)
            other.hand("in", [5, 6, 7, 8])
            self.assertEqual(looks(engine), looks(other))
            self.assertEqual(taken(engine), taken(other))
            run = call // 3
            self.assertEqual(engine.log(), [("begin", 0), ("end", run), ("begin", run), ("end", 4)])

    def test_what_has_come_out_stays(self):
        engine = Engine(chain(Own(Moody(2))))
        with self.assertRaises(Spoilt):
            engine.hand("in", [1, 2, 3])
        self.assertEqual(engine.take("out"), [1, 3])
        self.assertEqual((engine.settle(), engine.take("out")), (1, [6]))

    def test_again_and_again(self):
        engine = Engine(chain(Own(Moody(0, 1, 2, 4))))
        for asked in range(3):
            with self.assertRaises(Spoilt):
                engine.hand("in", [asked + 1])
        self.assertEqual(engine.left("in"), [1, 2, 3])
        with self.assertRaises(Spoilt):
            engine.settle()
        self.assertEqual((engine.left("in"), engine.take("out"), engine.rounds()), ([2, 3], [1], 1))
        self.assertEqual(engine.hand("in", [4]), 3)
        self.assertEqual(engine.take("out"), [3, 6, 10])
        self.assertEqual(engine.log(), [("begin", 0), ("end", 0)] * 3 + [
            ("begin", 0), ("end", 1), ("begin", 1), ("end", 4)])

    def test_handing_nothing_settles_too(self):
        engine = Engine(chain(Own(Moody(0))))
        with self.assertRaises(Spoilt):
            engine.hand("in", [1])
        self.assertEqual((engine.hand("in", []), engine.take("out")), (1, [1]))

    def test_at_any_firing_of_any_weave(self):
        chance = random.Random(51)
        for weave in live_weaves(52, 120):
            owns = [name for name in weave.names() if isinstance(weave.node(name), Own)]
            if owns:
                self.check_refused(chance, weave, chance.choice(owns))

    def check_refused(self, chance, weave, name):
        handed = streams_for(chance, weave, 4)
        elder = weave.node(name)
        at = chance.randrange(dict(counts(weave)[1])[name] * 4)
        calls = []

        def deed(memory, rows):
            calls.append(rows)
            if len(calls) - 1 == at:
                raise Spoilt("now")
            return elder.deed(memory, rows)
        engine, other = Engine(weave.put(name, Own(deed, elder.takes(), elder.gives()))), Engine(weave)
        spoilt = 0
        for inlet in handed:
            other.hand(inlet, handed[inlet])
            try:
                engine.hand(inlet, handed[inlet])
            except Spoilt:
                spoilt += 1
        self.assertEqual(spoilt, 1)
        self.assertEqual(engine.settle(), 4 - at // dict(counts(weave)[1])[name])
        self.assertEqual(looks(engine), looks(other))
        self.assertEqual(taken(engine), taken(other))

    def test_it_may_be_made_to_go_on_otherwise(self):
        deed = Moody(0)
        engine = Engine(chain(Own(deed), Gain(2)))
        with self.assertRaises(Spoilt):
            engine.hand("in", [1])
        engine.keep("b", Gain(2).turned(engine.memory("b"), 100, 0))
        self.assertEqual((engine.settle(), engine.take("out")), (1, [100]))


class Asking:
    """A deed that asks the engine that fires it, at each firing."""

    def __init__(self):
        self.engine = None
        self.seen = []
        self.refusals = []
        self.twins = []

    def __call__(self, memory, rows):
        self.seen.append(looks(self.engine))
        self.twins.append(self.engine.twin())
        for ask in (lambda: self.engine.hand("in", [1]), lambda: self.engine.hand(None, None), self.engine.settle,
                    lambda: self.engine.take("out"), lambda: self.engine.take(None),
                    lambda: self.engine.keep("own", 0), lambda: self.engine.keep("in", 0)):
            try:
                ask()
                self.refusals.append(None)
            except Busy as error:
                self.refusals.append(type(error))
        return memory + rows[0][0], [memory]


class BusyEngines(unittest.TestCase):
    def made(self):
        deed = Asking()
        weave = weave_of({"in": Inlet(), "taps": Taps([1, 1]), "own": Own(deed), "gain": Gain(3), "mix": Mix(2),
                          "out": Outlet()},
                         ["in taps 0 1", "taps own 0 0", "own gain 0 2", "gain mix 0 0", "mix mix 1 1", "mix out 0 0"])
        deed.engine = Engine(weave)
        return deed, deed.engine, weave

    def test_what_changes_it_is_refused(self):
        deed, engine, weave = self.made()
        engine.hand("in", [1, 2, 3])
        self.assertEqual(deed.refusals, [Busy] * 21)
        self.assertEqual((engine.rounds(), engine.left("in")), (3, []))
        self.assertEqual(engine.log(), [("begin", 0), ("end", 3)])

    def test_what_is_looked_at_is_as_behind_the_last_round(self):
        deed, engine, weave = self.made()
        engine.hand("in", [1, 2, 3])
        engine.hand("in", [4])
        other = Engine(weave.put("own", Own(lambda memory, rows: (memory + rows[0][0], [memory]))))
        behind = []
        for sample in (1, 2, 3, 4):
            behind.append(looks(other))
            other.hand("in", [sample])
        for number, (waiting, memories, left, rounds) in enumerate(deed.seen):
            self.assertEqual((waiting, memories, rounds), (behind[number][0], behind[number][1], number))
        self.assertEqual([left for waiting, memories, left, rounds in deed.seen], [[[1, 2, 3]], [[2, 3]], [[3]], [[4]]])

    def test_looks_are_refused_as_ever(self):
        errors = []

        def deed(memory, rows):
            for ask in (lambda: engine.left("x"), lambda: engine.waiting(-1), lambda: engine.memory("in")):
                try:
                    ask()
                except (NoInlet, NoWire, Unknown) as error:
                    errors.append(type(error))
            return memory, [0]
        engine = Engine(chain(Own(deed)))
        engine.hand("in", [1])
        self.assertEqual(errors, [NoInlet, NoWire, Unknown])

    def test_not_busy_behind_the_call(self):
        deed, engine, weave = self.made()
        engine.hand("in", [1])
        self.assertEqual(engine.take("out"), [0])
        engine.keep("own", engine.memory("own"))
        self.assertEqual((engine.settle(), engine.hand("in", [2])), (0, 1))

    def test_not_busy_behind_a_refusal(self):
        engine = Engine(chain(Own(Moody(0, 1))))
        for ask in (lambda: engine.hand("in", [4]), engine.settle):
            with self.assertRaises(Spoilt):
                ask()
            self.assertEqual(engine.take("out"), [])
            engine.keep("a", engine.memory("a"))
        self.assertEqual((engine.settle(), engine.take("out")), (1, [4]))

    def test_not_busy_however_a_deed_fails(self):
        failing = [True, True]

        def deed(memory, rows):
            if failing:
                failing.pop()
                raise KeyError("a deed that does otherwise than told")
            return memory, [7]
        engine = Engine(chain(Own(deed)))
        for ask in (lambda: engine.hand("in", [4]), engine.settle):
            with self.assertRaises(KeyError):
                ask()
            self.assertEqual((engine.take("out"), engine.left("in")), ([], [4]))
        self.assertEqual((engine.settle(), engine.take("out")), (1, [7]))
        self.assertEqual(engine.log(), [("begin", 0), ("end", 0)] * 2 + [("begin", 0), ("end", 1)])

    def test_a_deed_that_lets_busy_through(self):
        engine = Engine(chain(Own(lambda memory, rows: (engine.settle(), [0]))))
        with self.assertRaises(Busy):
            engine.hand("in", [1])
        self.assertEqual((engine.left("in"), engine.rounds(), engine.take("out")), ([1], 0, []))

    def test_busy_goes_ahead_of_other_refusals(self):
        found = []

        def deed(memory, rows):
            for ask in (lambda: engine.hand("x", 5), lambda: engine.take("x"), lambda: engine.keep("x", 5)):
                try:
                    ask()
                except (Busy, NoInlet, NoOutlet, Unknown) as error:
                    found.append(type(error))
            return memory, [0]
        engine = Engine(chain(Own(deed)))
        engine.hand("in", [1])
        self.assertEqual(found, [Busy] * 3)

    def test_another_engine_is_not_busy(self):
        other = Engine(echo())
        engine = Engine(chain(Own(lambda memory, rows: (memory, [other.hand("in", rows[0])]))))
        self.assertEqual((engine.hand("in", [1, 2]), engine.take("out"), other.take("out")), (2, [1, 1], [1, 4]))


class Twins(unittest.TestCase):
    def test_stands_alike(self):
        chance = random.Random(53)
        for lates in (False, True):
            for weave in live_weaves(54, 80, lates):
                handed = streams_for(chance, weave, 5)
                engine = Engine(weave, lates=lates)
                for name in handed:
                    engine.hand(name, handed[name][:len(handed[name]) // 2 + 1])
                twin = engine.twin()
                self.assertIsInstance(twin, Engine)
                self.assertEqual((looks(twin), twin.log(), twin.weave()), (looks(engine), engine.log(), weave))
                self.assert_goes_on_alike(engine, twin, handed)

    def assert_goes_on_alike(self, engine, twin, handed):
        kept = looks(twin)
        for name in handed:
            engine.hand(name, handed[name][len(handed[name]) // 2 + 1:])
        self.assertEqual(looks(twin), kept)
        for name in handed:
            twin.hand(name, handed[name][len(handed[name]) // 2 + 1:])
        self.assertEqual((looks(twin), twin.log()), (looks(engine), engine.log()))
        self.assertEqual(taken(twin), taken(engine))

    def test_goes_on_by_itself(self):
        engine = Engine(chain(Taps([1, 10]), delay=1))
        engine.hand("in", [1, 2, 3])
        twin = engine.twin()
        self.assertEqual(engine.take("out"), [0, 0, 1])
        self.assertEqual(twin.take("out"), [0, 0, 1])
        twin.keep("a", Taps([1, 10]).fresh())
        twin.hand("in", [0, 0])
        self.assertEqual((engine.rounds(), engine.waiting(0), engine.log()), (3, [3], [("begin", 0), ("end", 3)]))
        engine.hand("in", [4, 4, 4])
        self.assertEqual((engine.take("out"), twin.take("out")), ([12, 23, 34], [12, 3]))
        self.assertEqual(twin.log(), [("begin", 0), ("end", 3), ("begin", 3), ("end", 5)])

    def test_behind_a_refusal(self):
        engine = Engine(chain(Own(Moody(1))))
        with self.assertRaises(Spoilt):
            engine.hand("in", [1, 2, 3])
        twin = engine.twin()
        self.assertEqual((twin.settle(), twin.take("out"), twin.rounds()), (2, [1, 3, 6], 3))
        self.assertEqual((engine.rounds(), engine.left("in")), (1, [2, 3]))
        self.assertEqual(engine.take("out"), [1])

    def test_a_twin_of_a_twin(self):
        engine = Engine(echo(1), lates=False)
        engine.hand("in", [1])
        twin = engine.twin().twin()
        twin.hand("in", [0])
        self.assertEqual((twin.take("out"), engine.take("out")), ([1, 2], [1]))

    def test_asked_for_while_the_engine_is_busy(self):
        twins = []

        def deed(memory, rows):
            if len(twins) < 3:
                twins.append(engine.twin())
            return memory + rows[0][0], [memory + rows[0][0]]
        engine = Engine(chain(Own(deed), Gain(2)))
        engine.hand("in", [1, 2, 3])
        for number, twin in enumerate(twins):
            self.assertEqual((twin.rounds(), twin.left("in")), (number, [1, 2, 3][number:]))
            self.assertEqual(twin.take("out"), [2, 6][:number])
            self.assertEqual(twin.settle(), 3 - number)
            self.assertEqual(twin.take("out"), [2, 6, 12][number:])
        self.assertEqual((engine.rounds(), engine.take("out")), (3, [2, 6, 12]))
        self.assertEqual(engine.log(), [("begin", 0), ("end", 3)])

    def test_a_twin_is_not_busy_while_the_engine_is(self):
        told = []

        def deed(memory, rows):
            if not told:
                told.append("asked")
                twin = engine.twin()
                told.extend([twin.take("out"), twin.keep("a", twin.memory("a")), twin.settle(), twin.take("out")])
            return memory, [rows[0][0] * 5]
        engine = Engine(chain(Own(deed)))
        engine.hand("in", [1, 2])
        self.assertEqual(told, ["asked", [], None, 2, [5, 10]])
        self.assertEqual((engine.rounds(), engine.take("out")), (2, [5, 10]))
