import copy
import unittest

from sampleweave.nodes import Choose, Clip, Gain, Inlet, Mix, Node, Outlet, Share, Times
from tests.things import HUGE, fire_all, given_by, makers, some_rows


class Ends(unittest.TestCase):
    def test_inlet(self):
        node = Inlet()
        self.assertEqual((node.takes(), node.gives(), node.late(), node.begin()), ((), 1, 0, 0))

    def test_outlet(self):
        node = Outlet()
        self.assertEqual((node.takes(), node.gives(), node.late(), node.begin()), ((1,), 0, 0, 0))

    def test_they_are_made_of_nothing(self):
        for sort in (Inlet, Outlet):
            for more in ({"late": 1}, {"begin": 1}):
                with self.assertRaises(TypeError):
                    sort(**more)

    def test_they_do_not_fire(self):
        for sort in (Inlet, Outlet):
            for name, arguments in (("fresh", ()), ("fire", (None, [])), ("begun", (1,))):
                self.assertNotIn(name, vars(sort))
                with self.assertRaises(NotImplementedError):
                    getattr(sort(), name)(*arguments)


class EachSort(unittest.TestCase):
    def test_all_are_nodes_and_none_stands_under_another(self):
        sorts = [type(make()) for name, make in makers()] + [Inlet, Outlet]
        for sort in sorts:
            self.assertTrue(issubclass(sort, Node))
            self.assertEqual([other for other in sorts if issubclass(sort, other)], [sort])

    def test_what_they_take(self):
        places = {"Times": (1, 1), "Choose": (1, 1, 1), "Mix": (1, 1, 1), "Latch": (1, 1), "Own": (1, 2),
                  "Down": (3,), "Resample": (2,)}
        for name, make in makers():
            self.assertEqual(make().takes(), places.get(name, (1,)), name)
            self.assertIsInstance(make().takes(), tuple)

    def test_what_they_give(self):
        for name, make in makers():
            self.assertEqual(make().gives(), {"Up": 3, "Resample": 3}.get(name, 1), name)

    def test_late_and_begin(self):
        for name, make in makers():
            self.assertEqual((make().late(), make().begin()), (0, 0), name)
            self.assertEqual((make(late=4).late(), make(late=4).begin()), (4, 0), name)
            self.assertEqual((make(begin=9).late(), make(begin=9).begin()), (0, 9), name)
            self.assertEqual((make(late=99, begin=9999).late(), make(late=99, begin=9999).begin()), (99, 9999), name)

    def test_arguments_behind_the_star_go_by_name_alone(self):
        with self.assertRaises(TypeError):
            Gain(1, 2)
        with self.assertRaises(TypeError):
            Times(1)
        with self.assertRaises(TypeError):
            Clip(1, 2, 3)

    def test_late_has_no_bearing_on_firings(self):
        for name, make in makers():
            rows = [some_rows(make(), firing) for firing in range(5)]
            on_time, late = make(), make(late=99)
            self.assertEqual(fire_all(on_time, on_time.fresh(), rows)[1], fire_all(late, late.fresh(), rows)[1], name)

    def test_firing_changes_nothing_that_was_handed_in(self):
        for name, make in makers():
            for node in (make(), make(begin=2)):
                memory = node.fresh()
                for firing in range(4):
                    rows = some_rows(node, firing)
                    kept_rows, kept_memory = copy.deepcopy(rows), copy.deepcopy(memory)
                    behind, given = node.fire(memory, rows)
                    self.assertEqual((rows, memory), (kept_rows, kept_memory), name)
                    memory = behind

    def test_again_from_an_elder_memory(self):
        for name, make in makers():
            node = make(begin=1)
            memories, told = [node.fresh()], []
            for firing in range(6):
                memory, given = node.fire(memories[-1], some_rows(node, firing))
                memories.append(memory)
                told.append(given)
            for firing in reversed(range(6)):
                again = node.fire(memories[firing], some_rows(node, firing))
                self.assertEqual(again, (memories[firing + 1], told[firing]), name)

    def test_a_told_list_is_the_askers(self):
        for name, make in makers():
            for node in (make(), make(begin=9)):
                rows = some_rows(node, 1)
                memory, given = node.fire(node.fresh(), rows)
                kept = list(given)
                given.append(1000)
                given[0] = 2000
                self.assertEqual(node.fire(node.fresh(), rows)[1], kept, name)
                self.assertEqual(node.fire(node.fresh(), rows)[0], memory, name)

    def test_rows_changed_behind_a_firing_have_no_bearing(self):
        for name, make in makers():
            node = make()
            rows = some_rows(node, 3)
            memory, given = node.fire(node.fresh(), rows)
            for row in rows:
                row[0] = -77
            same_memory, same_given = node.fire(node.fresh(), some_rows(node, 3))
            self.assertEqual(given, same_given, name)
            self.assertEqual(node.fire(memory, some_rows(node, 4)), node.fire(same_memory, some_rows(node, 4)), name)

    def test_a_memory_of_a_like_made_node(self):
        for name, make in makers():
            one, other = make(begin=1), make(begin=1)
            memory = fire_all(one, one.fresh(), [some_rows(one, firing) for firing in range(3)])[0]
            self.assertEqual(one.fire(memory, some_rows(one, 3)), other.fire(memory, some_rows(other, 3)), name)

    def test_fire_by_names(self):
        for name, make in makers():
            node = make()
            rows = some_rows(node, 2)
            self.assertEqual(node.fire(rows=rows, memory=node.fresh()), node.fire(node.fresh(), rows), name)

    def test_a_firing_tells_a_tuple_of_two(self):
        for name, make in makers():
            for node in (make(), make(begin=1)):
                told = node.fire(node.fresh(), some_rows(node, 0))
                self.assertIsInstance(told, tuple, name)
                self.assertEqual(len(told), 2, name)
                self.assertIsInstance(told[1], list, name)


class PlainSorts(unittest.TestCase):
    def test_mix(self):
        self.assertEqual(given_by(Mix(1), [4, -5, 0]), [4, -5, 0])
        self.assertEqual(given_by(Mix(2), [4, -5, HUGE], [3, 3, HUGE]), [7, -2, 2 * HUGE])
        self.assertEqual(given_by(Mix(8), *[[place, -place] for place in range(8)]), [28, -28])
        self.assertEqual(Mix(8).takes(), (1,) * 8)
        self.assertEqual(Mix(many=1).takes(), (1,))

    def test_times(self):
        self.assertEqual(given_by(Times(), [3, -3, 0, HUGE], [4, 4, 9, -HUGE]), [12, -12, 0, -HUGE * HUGE])

    def test_clip(self):
        samples = [-6, -5, -4, 0, 4, 5, 6, HUGE, -HUGE]
        self.assertEqual(given_by(Clip(-5, 5), samples), [-5, -5, -4, 0, 4, 5, 5, 5, -5])
        self.assertEqual(given_by(Clip(low=2, high=2), [1, 2, 3]), [2, 2, 2])
        self.assertEqual(given_by(Clip(-9, -7), [0, -8, -10]), [-7, -8, -9])
        self.assertEqual(given_by(Clip(-HUGE, HUGE), [HUGE + 1, -HUGE - 1, 5]), [HUGE, -HUGE, 5])

    def test_share(self):
        self.assertEqual(given_by(Share(3), [7, -7, 0, 2, -1, 3]), [2, -3, 0, 0, -1, 1])
        self.assertEqual(given_by(Share(by=1), [7, -7]), [7, -7])
        self.assertEqual(given_by(Share(HUGE), [HUGE * 5 + 1, -1, HUGE - 1]), [5, -1, 0])

    def test_choose(self):
        switch = [1, 0, -1, HUGE, -HUGE, 2]
        self.assertEqual(given_by(Choose(), switch, [1, 2, 3, 4, 5, 6], [-1, -2, -3, -4, -5, -6]),
                         [1, -2, -3, 4, -5, 6])

    def test_gain(self):
        self.assertEqual(given_by(Gain(3), [1, -2, 0, HUGE]), [3, -6, 0, 3 * HUGE])
        self.assertEqual(given_by(Gain(by=-HUGE), [2, -1]), [-2 * HUGE, HUGE])
        self.assertEqual(given_by(Gain(0), [5, 6]), [0, 0])


class Mute(unittest.TestCase):
    def test_the_first_firings_are_mute(self):
        for name, make in makers():
            for begin in (1, 2, 5):
                self.check_mute(name, make, begin)

    def check_mute(self, name, make, begin):
        plain, node = make(), make(begin=begin)
        lost = [some_rows(node, firing + 50) for firing in range(begin)]
        rows = [some_rows(node, firing) for firing in range(4)]
        told = fire_all(node, node.fresh(), lost + rows)[1]
        mute = begin * node.gives()
        self.assertEqual(told[:mute], [0] * mute, name)
        self.assertEqual(told[mute:], fire_all(plain, plain.fresh(), rows)[1], name)

    def test_as_late_as_can_be(self):
        for name, make in makers():
            node = make(begin=9999)
            memory, given = fire_all(node, node.fresh(), [some_rows(node, 1)] * 3)
            self.assertEqual(given, [0, 0, 0] * node.gives(), name)
        told = given_by(Gain(2, begin=9999), [1] * 10001)
        self.assertEqual(told, [0] * 9999 + [2, 2])


class Begun(unittest.TestCase):
    def test_begun(self):
        for name, make in makers():
            for late, begin, more in [(0, 0, 0), (0, 0, 3), (5, 2, 0), (5, 2, 7), (99, 0, 9999)]:
                node = make(late=late, begin=begin)
                self.assertEqual(node.begun(more), make(late=late, begin=begin + more), name)
                self.assertEqual(node, make(late=late, begin=begin), name)
                self.assertEqual(node.begun(more=more).begin(), begin + more, name)
                self.assertIs(type(node.begun(more)), type(node), name)

    def test_it_fires_as_told(self):
        for name, make in makers():
            mute = make().begun(2).fire(make().begun(2).fresh(), some_rows(make(), 1))[1]
            self.assertEqual(mute, [0] * make().gives(), name)
            rows = [some_rows(make(), firing) for firing in range(5)]
            node = make(begin=1).begun(1)
            same = make(begin=2)
            self.assertEqual(fire_all(node, node.fresh(), rows)[1], fire_all(same, same.fresh(), rows)[1], name)
