import unittest

from everyroad.net import Net
from everyroad.orders import last_tree, orders

from helper import (
    Draw, all_nets, drawn_circuit, drawn_round, net_of, outs_of, refused, rounds_by_trying, spoiled, state,
    takes_each_once, turned,
)

# Two ways from 0 to 1 and back, a road from 1 to itself, a bend over 2, and 3 without roads.
ROADS = [(0, 1), (1, 0), (0, 1), (1, 1), (1, 2), (2, 0)]
ROUND = [0, 3, 1, 2, 4, 5]


def orders_by_sorting(size, roads, circuit):
    """The roads from each place, sorted by where they stand in the round."""
    return [sorted(row, key=circuit.index) for row in outs_of(size, roads)]


def lasts_by_looking(size, roads, circuit):
    """For each place the road behind which none from there stands; none where the round begins."""
    begin = roads[circuit[0]][0] if circuit else None
    lasts = []
    for place in range(size):
        spots = [spot for spot, road in enumerate(circuit) if roads[road][0] == place]
        lasts.append(circuit[max(spots)] if spots and place != begin else None)
    return lasts


class OrdersCase(unittest.TestCase):
    def check(self, size, roads, circuit):
        net = net_of(size, roads)
        before = state(net)
        handed = list(circuit)
        self.assertEqual(orders(net, handed), orders_by_sorting(size, roads, circuit), (roads, circuit))
        self.assertEqual(last_tree(net, handed), lasts_by_looking(size, roads, circuit), (roads, circuit))
        self.assertEqual(handed, circuit)
        self.assertEqual(state(net), before)

    def check_refused(self, net, circuit):
        before = state(net)
        handed = list(circuit)
        for call in (orders, last_tree):
            refused(self, "NoRound", call, net, handed)
            self.assertEqual(handed, circuit)
            self.assertEqual(state(net), before)


class TestRounds(OrdersCase):
    def test_by_hand(self):
        net = net_of(4, ROADS)
        self.assertEqual(orders(net, [0, 3, 1, 2, 4, 5]), [[0, 2], [3, 1, 4], [5], []])
        self.assertEqual(last_tree(net, [0, 3, 1, 2, 4, 5]), [None, 4, 5, None])
        self.assertEqual(orders(net, [3, 1, 2, 4, 5, 0]), [[2, 0], [3, 1, 4], [5], []])
        self.assertEqual(last_tree(net, [3, 1, 2, 4, 5, 0]), [0, None, 5, None])
        self.assertEqual(orders(net, [5, 0, 3, 1, 2, 4]), [[0, 2], [3, 1, 4], [5], []])
        self.assertEqual(last_tree(net, [5, 0, 3, 1, 2, 4]), [2, 4, None, None])

    def test_begun_at_any_of_its_roads(self):
        for circuit in (ROUND, [0, 1, 2, 3, 4, 5], [0, 4, 5, 2, 3, 1]):
            for begun in turned(circuit):
                self.check(4, ROADS, begun)

    def test_a_net_without_roads(self):
        for size in range(1, 9):
            self.assertEqual(orders(Net(size), []), [[]] * size)
            self.assertEqual(last_tree(Net(size), []), [None] * size)

    def test_roads_from_a_place_to_itself(self):
        net = net_of(1, [(0, 0)] * 3)
        self.assertEqual(orders(net, [2, 0, 1]), [[2, 0, 1]])
        self.assertEqual(last_tree(net, [2, 0, 1]), [None])
        net = net_of(8, [(7, 7), (7, 3), (3, 3), (3, 7)])
        self.assertEqual(orders(net, [0, 1, 2, 3]), [[], [], [], [2, 3], [], [], [], [0, 1]])
        self.assertEqual(last_tree(net, [0, 1, 2, 3]), [None, None, None, 3, None, None, None, None])
        self.assertEqual(last_tree(net, [2, 3, 0, 1]), [None, None, None, None, None, None, None, 1])

    def test_roads_alike(self):
        net = net_of(2, [(0, 1), (1, 0)] * 3)
        self.assertEqual(orders(net, [4, 1, 0, 5, 2, 3]), [[4, 0, 2], [1, 5, 3]])
        self.assertEqual(last_tree(net, [4, 1, 0, 5, 2, 3]), [None, 3])
        self.assertEqual(last_tree(net, [3, 4, 1, 0, 5, 2]), [2, None])

    def test_all_small_nets(self):
        for size, most in ((1, 4), (2, 5), (3, 4)):
            for roads in all_nets(size, most):
                for circuit in rounds_by_trying(roads):
                    for begun in turned(circuit) or [[]]:
                        self.check(size, roads, begun)

    def test_drawn_rounds(self):
        draw = Draw(11)
        for turn in range(200):
            size = 1 + draw.below(8)
            roads, circuit = drawn_round(draw, size, 24 if turn % 4 == 0 else 1 + draw.below(24))
            self.check(size, roads, circuit)
            self.check(size, roads, drawn_circuit(draw, roads))


class TestNoRound(OrdersCase):
    def test_wrong_roads(self):
        net = net_of(4, ROADS)
        for circuit in spoiled(ROUND):
            self.check_refused(net, circuit)
        self.check_refused(net, [])

    def test_two_exchanged(self):
        net = net_of(4, ROADS)
        seen = 0
        for one in range(6):
            for other in range(one):
                changed = list(ROUND)
                changed[one], changed[other] = changed[other], changed[one]
                if not takes_each_once(ROADS, changed):
                    self.check_refused(net, changed)
                    seen += 1
        self.assertGreater(seen, 10)

    def test_it_does_not_close(self):
        self.check_refused(net_of(2, [(0, 1)]), [0])
        self.check_refused(net_of(3, [(0, 1), (1, 2)]), [0, 1])

    def test_a_net_without_roads(self):
        for size in range(1, 9):
            for circuit in ([0], [-1], [0, 0], [10 ** 5000]):
                self.check_refused(Net(size), circuit)

    def test_a_net_without_rounds(self):
        self.check_refused(net_of(2, [(0, 0), (1, 1)]), [0, 1])
        self.check_refused(net_of(2, [(0, 0), (1, 1)]), [])
        self.check_refused(net_of(2, [(0, 1), (0, 1), (1, 0)]), [0, 2, 1])


class TestToldIsTheAskersOwn(OrdersCase):
    def test_told_again_after_a_change(self):
        net = net_of(4, ROADS)
        before = state(net)
        handed = list(ROUND)
        rows, lasts = orders(net, handed), last_tree(net, handed)
        for row in rows:
            row.append(99)
        rows.append([7])
        lasts.clear()
        self.assertEqual(handed, ROUND)
        self.assertEqual(state(net), before)
        self.check(4, ROADS, ROUND)

    def test_of_a_net_without_roads_too(self):
        net = Net(3)
        handed = []
        for row in orders(net, handed):
            row.append(1)
        last_tree(net, handed).append(2)
        self.assertEqual(handed, [])
        self.assertEqual(orders(net, []), [[], [], []])
        self.assertEqual(last_tree(net, []), [None, None, None])
        self.assertEqual(orders(Net(3), []), [[], [], []])

    def test_no_two_lists_are_one(self):
        for size, roads, circuit in ((3, [], []), (1, [(0, 0)], [0]), (8, ROADS, ROUND)):
            net = net_of(size, roads)
            one, other = orders(net, circuit), orders(net, circuit)
            told = [circuit, net.roads, last_tree(net, circuit), last_tree(net, circuit), one, other] + one + other
            self.assertEqual(len({id(row) for row in told}), len(told))
            self.assertTrue(all(type(row) is list for row in told))

    def test_what_is_handed_in_is_not_kept(self):
        net = net_of(4, ROADS)
        handed = list(ROUND)
        rows, lasts = orders(net, handed), last_tree(net, handed)
        handed.reverse()
        net.lay(3, 3)
        self.assertEqual(rows, [[0, 2], [3, 1, 4], [5], []])
        self.assertEqual(lasts, [None, 4, 5, None])


if __name__ == "__main__":
    unittest.main()
