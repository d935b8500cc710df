import unittest

from everyroad.errors import NoPlace, TooMany
from everyroad.net import Net

from helper import FAR, Draw, drawn_roads, net_of, no_places, state

SIZES = range(1, 9)


def full_net(size):
    return net_of(size, [(k % size, (k * 5 + 1) % size) for k in range(24)])


class TestSize(unittest.TestCase):
    def test_one_to_eight(self):
        for size in SIZES:
            net = Net(size)
            self.assertEqual(net.size, size)
            self.assertEqual(net.roads, [])
            self.assertIs(type(net.roads), list)

    def test_other_sizes_are_too_many(self):
        for size in (0, 9, 10, 24, -1, -2, -8) + FAR:
            with self.subTest(digits=len(hex(size)), below=size < 0), self.assertRaises(TooMany):
                Net(size)


class TestLay(unittest.TestCase):
    def test_numbers_count_from_nought(self):
        net = Net(3)
        told = [net.lay(0, 1), net.lay(1, 2), net.lay(2, 0), net.lay(1, 0)]
        self.assertEqual(told, [0, 1, 2, 3])
        self.assertEqual(net.roads, [(0, 1), (1, 2), (2, 0), (1, 0)])

    def test_a_road_is_a_tuple(self):
        net = Net(2)
        net.lay(1, 0)
        self.assertIs(type(net.roads), list)
        self.assertIs(type(net.roads[0]), tuple)

    def test_roads_from_a_place_to_itself_and_alike(self):
        net = Net(2)
        told = [net.lay(1, 1), net.lay(0, 1), net.lay(0, 1), net.lay(1, 1), net.lay(0, 1)]
        self.assertEqual(told, [0, 1, 2, 3, 4])
        self.assertEqual(net.roads, [(1, 1), (0, 1), (0, 1), (1, 1), (0, 1)])
        self.assertEqual(net.outs(0), [1, 2, 4])
        self.assertEqual(net.ins(0), [])
        self.assertEqual(net.outs(1), [0, 3])
        self.assertEqual(net.ins(1), [0, 1, 2, 3, 4])

    def test_each_place_may_be_start_and_goal(self):
        for size in SIZES:
            for start in range(size):
                for goal in range(size):
                    net = Net(size)
                    self.assertEqual(net.lay(start, goal), 0)
                    self.assertEqual(net.roads, [(start, goal)])

    def test_the_24th_is_laid_the_25th_refused(self):
        for size in SIZES:
            net = Net(size)
            told = [net.lay(k % size, k * 3 % size) for k in range(24)]
            self.assertEqual(told, list(range(24)))
            before = state(net)
            for _ in range(2):
                with self.assertRaises(TooMany):
                    net.lay(0, size - 1)
                self.assertEqual(state(net), before)

    def test_no_place(self):
        for size in SIZES:
            net = net_of(size, [(0, size - 1)])
            before = state(net)
            for wrong in no_places(size):
                for start, goal in ((wrong, 0), (0, wrong), (wrong, size - 1), (wrong, wrong)):
                    with self.assertRaises(NoPlace):
                        net.lay(start, goal)
                    self.assertEqual(state(net), before)
            self.assertEqual(net.lay(0, 0), 1)

    def test_no_place_comes_ahead_of_too_many(self):
        for size in SIZES:
            net = full_net(size)
            before = state(net)
            for wrong in no_places(size):
                for start, goal in ((wrong, 0), (0, wrong), (wrong, wrong)):
                    with self.assertRaises(NoPlace):
                        net.lay(start, goal)
            self.assertEqual(state(net), before)


class TestOutsAndIns(unittest.TestCase):
    def test_none_at_first(self):
        net = Net(8)
        for place in range(8):
            self.assertEqual(net.outs(place), [])
            self.assertEqual(net.ins(place), [])

    def test_one_net_by_hand(self):
        net = net_of(4, [(2, 0), (0, 2), (2, 2), (1, 0), (2, 1)])
        self.assertEqual([net.outs(p) for p in range(4)], [[1], [3], [0, 2, 4], []])
        self.assertEqual([net.ins(p) for p in range(4)], [[0, 3], [4], [1, 2], []])

    def test_rising_on_drawn_nets(self):
        draw = Draw(1)
        for _ in range(300):
            size = 1 + draw.below(8)
            roads = drawn_roads(draw, size)
            net = net_of(size, roads)
            for place in range(size):
                self.assertEqual(net.outs(place), [k for k, r in enumerate(roads) if r[0] == place])
                self.assertEqual(net.ins(place), [k for k, r in enumerate(roads) if r[1] == place])

    def test_no_place(self):
        for size in SIZES:
            for net in (Net(size), full_net(size)):
                before = state(net)
                for wrong in no_places(size):
                    with self.assertRaises(NoPlace):
                        net.outs(wrong)
                    with self.assertRaises(NoPlace):
                        net.ins(wrong)
                self.assertEqual(state(net), before)

    def test_a_told_list_may_be_changed(self):
        for roads in ([], [(0, 0), (0, 1), (1, 0)]):
            net = net_of(2, roads)
            before = state(net)
            for told in (net.outs(0), net.ins(0), net.outs(1), net.ins(1)):
                told.insert(0, 77)
                told.reverse()
                self.assertEqual(state(net), before)
            net.lay(1, 1)
            self.assertEqual(net.outs(1), [k for k, r in enumerate(roads) if r[0] == 1] + [len(roads)])

    def test_told_lists_are_never_one(self):
        net = net_of(1, [(0, 0)])
        told = [net.outs(0), net.outs(0), net.ins(0), net.ins(0), net.roads]
        self.assertEqual(len({id(one) for one in told}), 5)

    def test_a_told_list_stays_when_a_road_is_laid(self):
        net = net_of(2, [(0, 1)])
        outs, ins = net.outs(0), net.ins(1)
        net.lay(0, 1)
        self.assertEqual((outs, ins), ([0], [0]))
        self.assertEqual((net.outs(0), net.ins(1)), ([0, 1], [0, 1]))


class TestTwoNets(unittest.TestCase):
    def test_a_second_net_has_nothing_of_the_first(self):
        first = net_of(3, [(0, 1), (1, 2)])
        before = state(first)
        second = Net(3)
        self.assertEqual(state(second), (3, [], [[], [], []], [[], [], []]))
        self.assertEqual(second.lay(2, 2), 0)
        self.assertEqual(second.roads, [(2, 2)])
        self.assertEqual(state(first), before)
        self.assertEqual(first.lay(2, 0), 2)
        self.assertEqual(second.roads, [(2, 2)])


if __name__ == "__main__":
    unittest.main()
