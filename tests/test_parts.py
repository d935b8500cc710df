import unittest

from everyroad.net import Net, parts

from helper import Draw, all_nets, drawn_even_roads, drawn_roads, net_of, parts_of, state


class TestParts(unittest.TestCase):
    def test_places_without_roads_are_of_none(self):
        for size in range(1, 9):
            self.assertEqual(parts(Net(size)), [])
        self.assertEqual(parts(net_of(5, [(1, 3)])), [[1, 3]])

    def test_a_road_from_a_place_to_itself_is_a_part(self):
        self.assertEqual(parts(net_of(1, [(0, 0)])), [[0]])
        self.assertEqual(parts(net_of(4, [(2, 2), (0, 0), (2, 2)])), [[0], [2]])

    def test_roads_are_taken_either_way(self):
        self.assertEqual(parts(net_of(3, [(0, 1), (2, 1)])), [[0, 1, 2]])
        self.assertEqual(parts(net_of(3, [(1, 0), (1, 2)])), [[0, 1, 2]])
        self.assertEqual(parts(net_of(3, [(2, 1), (1, 0)])), [[0, 1, 2]])

    def test_several_steps(self):
        along = [(0, 7), (1, 7), (1, 6), (2, 6), (2, 5), (3, 5), (3, 4)]
        self.assertEqual(parts(net_of(8, along)), [list(range(8))])
        self.assertEqual(parts(net_of(8, along[::-1])), [list(range(8))])
        self.assertEqual(parts(net_of(8, along[:3] + along[4:])), [[0, 1, 6, 7], [2, 3, 4, 5]])

    def test_parts_by_their_least_places(self):
        self.assertEqual(parts(net_of(8, [(7, 6), (5, 1), (4, 0)])), [[0, 4], [1, 5], [6, 7]])
        self.assertEqual(parts(net_of(8, [(k, k) for k in range(7, -1, -1)])), [[k] for k in range(8)])
        # A part whose greatest place comes ahead of another part's least, and one that lies round another.
        self.assertEqual(parts(net_of(6, [(5, 0), (2, 3), (1, 4)])), [[0, 5], [1, 4], [2, 3]])

    def test_all_small_nets(self):
        for size, most in ((1, 3), (2, 4), (3, 4)):
            for roads in all_nets(size, most):
                self.assertEqual(parts(net_of(size, roads)), parts_of(roads), roads)

    def test_drawn_nets(self):
        draw = Draw(2)
        for turn in range(600):
            size = 1 + draw.below(8)
            roads = (drawn_roads, drawn_even_roads)[turn % 2](draw, size)[:1 + draw.below(24)]
            net = net_of(size, roads)
            before = state(net)
            self.assertEqual(parts(net), parts_of(roads), roads)
            self.assertEqual(state(net), before)


class TestToldParts(unittest.TestCase):
    def test_lists(self):
        told = parts(net_of(4, [(0, 1), (2, 3)]))
        self.assertEqual([type(one) for one in [told] + told], [list, list, list])
        self.assertIs(type(parts(Net(1))), list)

    def test_the_net_stays_and_the_told_may_be_changed(self):
        net = net_of(6, [(5, 4), (0, 2), (2, 2)])
        before = state(net)
        told = parts(net)
        self.assertEqual(state(net), before)
        told[0].append(3)
        told[1].clear()
        told.append([1])
        self.assertEqual(state(net), before)
        self.assertEqual(parts(net), [[0, 2], [4, 5]])
        self.assertEqual(told, [[0, 2, 3], [], [1]])

    def test_the_told_list_of_none_may_be_changed(self):
        net = Net(2)
        parts(net).append([0])
        self.assertEqual(parts(net), [])

    def test_no_two_lists_are_one(self):
        net = net_of(4, [(0, 1), (2, 3)])
        one, other = parts(net), parts(net)
        self.assertEqual(len({id(told) for told in [one] + one + [other] + other}), 6)

    def test_told_again_after_one_more_road(self):
        net = net_of(6, [(0, 1), (3, 4)])
        first = parts(net)
        self.assertEqual(first, [[0, 1], [3, 4]])
        net.lay(5, 5)
        second = parts(net)
        self.assertEqual(second, [[0, 1], [3, 4], [5]])
        net.lay(4, 0)
        self.assertEqual(parts(net), [[0, 1, 3, 4], [5]])
        self.assertEqual((first, second), ([[0, 1], [3, 4]], [[0, 1], [3, 4], [5]]))


if __name__ == "__main__":
    unittest.main()
