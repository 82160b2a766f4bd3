import unittest

from sampleweave.errors import Spoilt
from sampleweave.nodes import Own
from tests.things import HUGE, adding


class Asked:
    """A deed that notes what it is handed, and gives noughts."""

    def __init__(self, gives=1):
        self.calls = []
        self.gives = gives

    def __call__(self, memory, rows):
        self.calls.append((memory, [list(row) for row in rows]))
        return memory, [0] * self.gives


class Deeds(unittest.TestCase):
    def test_what_it_takes_and_gives(self):
        node = Own(adding)
        self.assertEqual((node.takes(), node.gives()), ((1,), 1))
        node = Own(adding, (8, 1, 2, 3), 8, (1, 2))
        self.assertEqual((node.takes(), node.gives()), ((8, 1, 2, 3), 8))
        node = Own(first=7, gives=2, takes=(3,), deed=adding)
        self.assertEqual((node.takes(), node.gives()), ((3,), 2))

    def test_its_memory_goes_on(self):
        node = Own(adding, (2, 1), first=10)
        memory, given = node.fire(node.fresh(), [[1, 2], [3]])
        self.assertEqual(given, [16])
        later, given = node.fire(memory, [[-HUGE, 0], [0]])
        self.assertEqual(given, [16 - HUGE])
        self.assertEqual(node.fire(memory, [[0, 0], [4]])[1], [20])

    def test_it_is_handed_the_memory_as_it_is_and_a_list_for_each_place(self):
        for first in [0, -5, HUGE, (), (1,), (1, -2, HUGE)]:
            deed = Asked()
            node = Own(deed, (2, 1), 1, first)
            node.fire(node.fresh(), [[1, 2], [3]])
            self.assertEqual(deed.calls, [(first, [[1, 2], [3]])])

    def test_a_memory_of_a_tuple(self):
        def swapping(memory, rows):
            one, other = memory
            return (other, rows[0][0]), [one]
        node = Own(swapping, first=(7, 8))
        memory, told = node.fresh(), []
        for sample in [1, 2, 3]:
            memory, given = node.fire(memory, [[sample]])
            told.extend(given)
        self.assertEqual(told, [7, 8, 1])

    def test_it_gives_several(self):
        node = Own(lambda memory, rows: (memory, [rows[0][0], 2, -3]), gives=3)
        self.assertEqual(node.fire(node.fresh(), [[9]])[1], [9, 2, -3])

    def test_it_is_asked_once_for_each_firing_that_is_not_mute(self):
        deed = Asked(2)
        node = Own(deed, (1,), 2, 5, begin=3)
        memory = node.fresh()
        for firing in range(5):
            memory, given = node.fire(memory, [[firing]])
            self.assertEqual(given, [0, 0])
        self.assertEqual(deed.calls, [(5, [[3]]), (5, [[4]])])

    def test_a_mute_firing_is_never_spoilt(self):
        def spoiling(memory, rows):
            raise Spoilt("asked")
        node = Own(spoiling, (2,), 4, begin=1)
        memory, given = node.fire(node.fresh(), [[1, 2]])
        self.assertEqual(given, [0, 0, 0, 0])
        with self.assertRaises(Spoilt):
            node.fire(memory, [[1, 2]])

    def test_a_deed_is_not_looked_at(self):
        for deed in [None, 5, "deed", [], object()]:
            node = Own(deed, begin=1)
            self.assertEqual(node.fire(node.fresh(), [[1]])[1], [0])


class Lists(unittest.TestCase):
    def test_the_lists_that_it_is_handed_are_its_own(self):
        held = []

        def greedy(memory, rows):
            held.append(rows)
            rows[0].append(99)
            rows[0][0] = 98
            rows.append([97])
            return memory, [len(rows[1])]
        same = [1, 2]
        rows = [same, same]
        node = Own(greedy, (2, 2))
        self.assertEqual(node.fire(node.fresh(), rows)[1], [2])
        self.assertEqual(rows, [[1, 2], [1, 2]])
        same[1] = 50
        self.assertEqual(held, [[[98, 2, 99], [1, 2], [97]]])

    def test_the_list_that_is_told_is_another_one(self):
        kept = [4, 5]
        node = Own(lambda memory, rows: (memory, kept), gives=2)
        given = node.fire(node.fresh(), [[1]])[1]
        given.append(6)
        self.assertEqual(kept, [4, 5])
        given = node.fire(node.fresh(), [[1]])[1]
        kept[0] = 70
        self.assertEqual(given, [4, 5])

    def test_a_deed_that_gives_the_list_it_was_handed(self):
        node = Own(lambda memory, rows: (memory, rows[0]), (2,), 2)
        rows = [[1, 2]]
        given = node.fire(node.fresh(), rows)[1]
        given.append(3)
        self.assertEqual(rows, [[1, 2]])


class Spoiling(unittest.TestCase):
    def test_spoilt_goes_on_to_the_asker(self):
        def careful(memory, rows):
            if rows[0][0] < 0:
                raise Spoilt("below nought")
            return memory + 1, [memory]
        node = Own(careful, first=3)
        with self.assertRaises(Spoilt) as caught:
            node.fire(node.fresh(), [[-1]])
        self.assertEqual(caught.exception.why, "below nought")
        self.assertEqual(node.fire(node.fresh(), [[1]])[1], [3])

    def test_the_very_refusal_of_the_deed(self):
        refusal = Spoilt()

        def refusing(memory, rows):
            raise refusal
        node = Own(refusing)
        with self.assertRaises(Spoilt) as caught:
            node.fire(node.fresh(), [[1]])
        self.assertIs(caught.exception, refusal)
        self.assertEqual(caught.exception.why, "")

    def test_asked_anew_it_may_tell(self):
        moods = [True, False, False]

        def moody(memory, rows):
            if moods.pop(0):
                raise Spoilt("not now")
            return memory + rows[0][0], [memory]
        node = Own(moody, first=2)
        memory = node.fresh()
        with self.assertRaises(Spoilt):
            node.fire(memory, [[5]])
        memory, given = node.fire(memory, [[5]])
        self.assertEqual(given, [2])
        self.assertEqual(node.fire(memory, [[0]])[1], [7])
