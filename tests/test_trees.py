import unittest
from itertools import product

from everyroad.counts import trees
from everyroad.net import Net

from helper import Draw, all_nets, drawn_even_roads, drawn_roads, net_of, no_places, outs_of, refused, state


def comes_there(choice, one, place):
    """Whether one comes from the one place to the other by the chosen roads."""
    for _ in range(9):
        if one != place and one in choice:
            one = choice[one][1]
    return one == place


def trees_by_trying(size, roads, place):
    """All choices of one road from each other place, looked at one by one."""
    others = [other for other, row in enumerate(outs_of(size, roads)) if row and other != place]
    rows = [[road for road in roads if road[0] == other] for other in others]
    choices = [dict(zip(others, row)) for row in product(*rows)]
    return len([one for one in choices if all(comes_there(one, other, place) for other in others)])


def whole_net(size):
    """A road from each place to each other one."""
    return [(start, goal) for start in range(size) for goal in range(size) if start != goal]


class TreesCase(unittest.TestCase):
    def check(self, size, roads):
        net = net_of(size, roads)
        before = state(net)
        for place in range(size):
            told = trees(net, place)
            self.assertIs(type(told), int)
            self.assertEqual(told, trees_by_trying(size, roads, place), (roads, place))
        self.assertEqual(state(net), before)

    def told(self, size, roads):
        net = net_of(size, roads)
        return [trees(net, place) for place in range(size)]


class TestByHand(TreesCase):
    def test_a_net_without_roads(self):
        for size in range(1, 9):
            self.assertEqual(self.told(size, []), [1] * size)

    def test_one_road(self):
        self.assertEqual(self.told(2, [(0, 1)]), [1, 1])
        self.assertEqual(self.told(3, [(0, 1)]), [1, 1, 0])
        self.assertEqual(self.told(1, [(0, 0)]), [1])
        self.assertEqual(self.told(2, [(0, 0)]), [1, 0])

    def test_rings(self):
        for size in range(2, 9):
            ring = [(k, (k + 1) % size) for k in range(size)]
            self.assertEqual(self.told(size, ring), [1] * size)
            self.assertEqual(self.told(size, ring * 3), [3 ** (size - 1)] * size)
            both = ring + [(goal, start) for start, goal in ring]
            self.assertEqual(self.told(size, both), [size if size > 2 else 2] * size)

    def test_whole_nets(self):
        for size in range(1, 6):
            self.assertEqual(self.told(size, whole_net(size)), [size ** max(size - 2, 0)] * size)

    def test_roads_alike(self):
        self.assertEqual(self.told(2, [(1, 0)] * 5), [5, 1])
        self.assertEqual(self.told(3, [(1, 0)] * 2 + [(2, 0)] * 3 + [(2, 1)] * 4), [14, 4, 0])
        self.assertEqual(self.told(8, [(k, k - 1) for k in range(1, 8)] * 3)[0], 3 ** 7)

    def test_roads_from_a_place_to_itself_are_in_no_tree(self):
        self.assertEqual(self.told(2, [(0, 1), (1, 0), (1, 1), (1, 1), (0, 0)]), [1, 1])
        # From 1 no other road leads, and one must be chosen.
        self.assertEqual(self.told(2, [(0, 1), (1, 1)]), [0, 1])

    def test_places_without_roads_leading_from_them(self):
        # No road is chosen at 0 or 2; what leads to 2 doesn't come to 0.
        self.assertEqual(self.told(3, [(1, 0), (1, 2)]), [1, 1, 1])
        self.assertEqual(self.told(3, [(1, 0), (1, 2), (1, 2), (0, 2)]), [1, 0, 3])
        self.assertEqual(self.told(3, [(1, 2)]), [0, 1, 1])
        self.assertEqual(self.told(4, [(1, 2), (2, 1), (2, 3), (1, 0)]), [1, 1, 1, 1])

    def test_more_than_one_part(self):
        self.assertEqual(self.told(4, [(0, 1), (1, 0), (2, 3), (3, 2)]), [0, 0, 0, 0])
        self.assertEqual(self.told(5, [(0, 1), (1, 0), (3, 3)]), [0, 0, 0, 0, 0])
        self.assertEqual(self.told(4, [(0, 1), (2, 3)]), [0, 0, 0, 0])


class TestNoPlace(TreesCase):
    def test_numbers_that_are_no_places(self):
        for size in range(1, 9):
            for net in (Net(size), net_of(size, [(k % size, k * 5 % size) for k in range(24)])):
                before = state(net)
                for wrong in no_places(size):
                    refused(self, "NoPlace", trees, net, wrong)
                self.assertEqual(state(net), before)


class TestManyNets(TreesCase):
    def test_all_small_nets(self):
        for size, most in ((1, 3), (2, 5), (3, 4), (4, 3)):
            for roads in all_nets(size, most):
                self.check(size, roads)

    def test_drawn_nets(self):
        draw = Draw(21)
        for turn in range(200):
            size = 2 + draw.below(5)
            self.check(size, (drawn_roads, drawn_even_roads)[turn % 2](draw, size)[:12])

    def test_8_places_and_24_roads(self):
        draw = Draw(22)
        for _ in range(12):
            self.check(8, draw.mixed([(place, draw.below(8)) for place in range(8)] * 2)
                       + [(draw.below(8), draw.below(8)) for _ in range(8)])
        self.check(8, [(k, (k * m + 1) % 8) for k in range(8) for m in (1, 3, 5)])
        # No road leads from 7, or from 3.
        self.check(8, [(k % 7, (k * 3 + 1) % 8) for k in range(24)])
        self.check(8, [(k % 3, draw.below(8)) for k in range(24)])


class TestToldAnew(TreesCase):
    def test_after_one_more_road(self):
        net = net_of(3, [(0, 1), (1, 2)])
        self.assertEqual([trees(net, place) for place in range(3)], [0, 1, 1])
        net.lay(0, 2)
        self.assertEqual([trees(net, place) for place in range(3)], [0, 1, 2])
        net.lay(2, 0)
        self.assertEqual([trees(net, place) for place in range(3)], [1, 1, 2])


if __name__ == "__main__":
    unittest.main()
