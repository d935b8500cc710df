import unittest
from itertools import permutations, product

from everyroad.net import Net
from everyroad.orders import by_orders, orders

from helper import (
    Draw, all_nets, drawn_circuit, drawn_even_roads, drawn_round, net_of, no_places, odd_places, outs_of, refused,
    rounds_by_trying, state, takes_each_once, turned,
)

# As many lead from each place as come; 3 has no roads.
ROADS = [(0, 1), (1, 0), (0, 1), (1, 1), (1, 2), (2, 0)]
ROWS = [[0, 2], [3, 1, 4], [5], []]


def walk(roads, start, rows):
    """The roads that are taken, each the next one of its place's list."""
    spots = [0] * len(rows)
    taken = []
    while spots[start] < len(rows[start]):
        taken.append(rows[start][spots[start]])
        spots[start] += 1
        start = roads[taken[-1]][1]
    return taken


def leads_there(roads, start, rows, place):
    """Whether one comes from the place to the start by the last roads."""
    for _ in rows:
        if place != start and rows[place]:
            place = roads[rows[place][-1]][1]
    return place == start


def lasts_lead_there(roads, start, rows):
    return all(leads_there(roads, start, rows, place) for place, row in enumerate(rows) if row)


def all_rows(size, roads):
    """All orders of this net."""
    for rows in product(*[list(permutations(row)) for row in outs_of(size, roads)]):
        yield [list(row) for row in rows]


class ByOrdersCase(unittest.TestCase):
    def check_refused(self, name, net, start, rows):
        before = state(net)
        handed = [list(row) for row in rows]
        error = refused(self, name, by_orders, net, start, handed)
        self.assertEqual(handed, rows)
        self.assertEqual(state(net), before)
        return error

    def check_left(self, net, start, rows, left):
        error = self.check_refused("NotWhole", net, start, rows)
        self.assertIs(type(error.left), list)
        self.assertEqual(error.left, left)

    def check(self, size, roads, start, rows):
        """Looks at a walk in a net where as many lead from each place as come; whether it is a round."""
        net = net_of(size, roads)
        taken = walk(roads, start, rows)
        whole = takes_each_once(roads, taken)
        self.assertEqual(whole, lasts_lead_there(roads, start, rows))
        if not whole:
            self.check_left(net, start, rows, sorted(set(range(len(roads))) - set(taken)))
            return False
        before = state(net)
        handed = [list(row) for row in rows]
        told = by_orders(net, start, handed)
        self.assertIs(type(told), list)
        self.assertEqual(told, taken)
        self.assertEqual(orders(net, told), rows)
        self.assertEqual(handed, rows)
        self.assertEqual(state(net), before)
        return True


class TestWalks(ByOrdersCase):
    def test_by_hand(self):
        net = net_of(4, ROADS)
        self.assertEqual(by_orders(net, 0, ROWS), [0, 3, 1, 2, 4, 5])
        self.assertEqual(by_orders(net, 0, [[2, 0], [4, 3, 1], [5], []]), [2, 4, 5, 0, 3, 1])
        self.assertEqual(by_orders(net, 2, [[0, 2], [3, 1, 4], [5], []]), [5, 0, 3, 1, 2, 4])
        self.assertEqual(by_orders(net, 1, [[0, 2], [4, 3, 1], [5], []]), [4, 5, 0, 3, 1, 2])

    def test_a_net_without_roads(self):
        for size in range(1, 9):
            for start in range(size):
                self.assertEqual(by_orders(Net(size), start, [[]] * size), [])

    def test_one_place(self):
        self.assertEqual(by_orders(net_of(1, [(0, 0)] * 3), 0, [[1, 2, 0]]), [1, 2, 0])
        self.assertEqual(by_orders(net_of(1, [(0, 0)] * 24), 0, [list(range(23, -1, -1))]), list(range(23, -1, -1)))
        self.assertEqual(by_orders(net_of(2, [(1, 1)]), 1, [[], [0]]), [0])

    def test_all_orders_of_small_nets(self):
        seen = []
        for size, most in ((1, 4), (2, 5), (3, 4)):
            for roads in all_nets(size, most):
                if not odd_places(size, roads):
                    for rows in all_rows(size, roads):
                        seen += [self.check(size, roads, start, rows) for start in range(size)]
        self.assertGreater(seen.count(True), 500)
        self.assertGreater(seen.count(False), 500)

    def test_all_orders_of_one_net(self):
        for rows in all_rows(4, ROADS):
            for start in range(4):
                self.check(4, ROADS, start, rows)

    def test_drawn_orders(self):
        draw = Draw(12)
        seen = []
        for turn in range(1200):
            size = 1 + draw.below(8)
            if turn % 2:
                roads = drawn_even_roads(draw, size)
            else:
                roads, _ = drawn_round(draw, size, 24 if turn % 4 else 1 + draw.below(24))
            rows = [draw.mixed(row) for row in outs_of(size, roads)]
            seen += [self.check(size, roads, start, rows) for start in range(size)]
        self.assertGreater(seen.count(True), 100)
        self.assertGreater(seen.count(False), 100)


class TestNotWhole(ByOrdersCase):
    def test_by_hand(self):
        net = net_of(4, ROADS)
        self.check_left(net, 0, [[0, 2], [1, 4, 3], [5], []], [3])
        self.check_left(net, 0, [[2, 0], [4, 1, 3], [5], []], [3])
        self.check_left(net, 2, [[0, 2], [4, 3, 1], [5], []], [1, 2, 3])
        self.check_left(net, 2, [[2, 0], [4, 1, 3], [5], []], [0, 1, 3])

    def test_where_the_place_has_no_roads(self):
        self.check_left(net_of(4, ROADS), 3, ROWS, [0, 1, 2, 3, 4, 5])
        self.check_left(net_of(2, [(0, 0)]), 1, [[0], []], [0])

    def test_of_several_parts(self):
        net = net_of(5, [(0, 1), (4, 3), (1, 0), (3, 4), (2, 2)])
        rows = [[0], [2], [4], [3], [1]]
        for start, left in enumerate(([1, 3, 4], [1, 3, 4], [0, 1, 2, 3], [0, 2, 4], [0, 2, 4])):
            self.check_left(net, start, rows, left)

    def test_left_is_the_askers_own(self):
        net = net_of(4, ROADS)
        handed = [[0, 2], [1, 4, 3], [5], []]
        error = self.check_refused("NotWhole", net, 0, handed)
        error.left.append(9)
        self.assertEqual(handed, [[0, 2], [1, 4, 3], [5], []])
        self.check_left(net, 0, handed, [3])


class TestNoPlace(ByOrdersCase):
    def test_starts_that_are_no_places(self):
        for size, roads, rows in ((4, ROADS, ROWS), (1, [], [[]]), (8, [(7, 7)], [[]] * 7 + [[0]])):
            for start in no_places(size):
                self.check_refused("NoPlace", net_of(size, roads), start, rows)


class TestNoOrders(ByOrdersCase):
    def refuse(self, rows, start=0):
        self.check_refused("NoOrders", net_of(4, ROADS), start, rows)

    def test_lists_too_few_or_too_many(self):
        self.refuse([])
        self.refuse(ROWS[:3])
        self.refuse(ROWS[:1])
        self.refuse(ROWS + [[]])
        self.refuse(ROWS + [[0]])
        self.refuse([[]] + ROWS)
        self.refuse([[], [], [], []])
        self.check_refused("NoOrders", Net(1), 0, [])
        self.check_refused("NoOrders", Net(1), 0, [[], []])

    def test_a_road_left_out_or_twice(self):
        for place in range(3):
            for spot, road in enumerate(ROWS[place]):
                row = ROWS[place]
                self.refuse(ROWS[:place] + [row[:spot] + row[spot + 1:]] + ROWS[place + 1:])
                self.refuse(ROWS[:place] + [row + [road]] + ROWS[place + 1:])
                self.refuse(ROWS[:place] + [[road] + row] + ROWS[place + 1:])
        self.refuse([[0, 0], [3, 1, 4], [5], []])
        self.refuse([[2, 2], [3, 1, 4], [5], []])

    def test_a_road_put_to_another_places_list(self):
        for place, other in permutations(range(4), 2):
            for road in ROWS[place]:
                rows = [[one for one in row if one != road] for row in ROWS]
                rows[other].append(road)
                self.refuse(rows)
                twice = [list(row) for row in ROWS]
                twice[other].insert(0, road)
                self.refuse(twice)
        self.refuse([[3, 1, 4], [0, 2], [5], []])
        self.refuse([[0, 2], [3, 1, 4], [], [5]])

    def test_a_road_in_the_place_of_another(self):
        for place in range(3):
            for spot, road in enumerate(ROWS[place]):
                for wrong in (0, 1, 2, 3, 4, 5, 6, 7, 24, -1, -6, road - 6, 10 ** 5000, -10 ** 5000):
                    if wrong != road:
                        rows = [list(row) for row in ROWS]
                        rows[place][spot] = wrong
                        self.refuse(rows)

    def test_a_number_that_no_road_has(self):
        for place in range(4):
            for wrong in (-1, -2, -6, -7, 6, 7, 24, 10 ** 9, 10 ** 5000, -10 ** 5000):
                rows = [list(row) for row in ROWS]
                rows[place].append(wrong)
                self.refuse(rows)
        for wrong in (0, -1, 10 ** 9):
            self.check_refused("NoOrders", Net(1), 0, [[wrong]])

    def test_also_where_the_walk_would_not_come_there(self):
        net = net_of(4, [(0, 0), (2, 2), (2, 2)])
        for rows in ([[0], [], [1], []], [[0], [], [1, 1], []], [[0], [], [1], [2]], [[0], [], [1, 2]]):
            self.check_refused("NoOrders", net, 0, rows)


class TestNotEven(ByOrdersCase):
    def test_odd_places(self):
        self.check_refused("NotEven", net_of(2, [(0, 1)]), 0, [[0], []])
        self.check_refused("NotEven", net_of(2, [(0, 1)]), 1, [[0], []])
        self.check_refused("NotEven", net_of(2, [(0, 1), (1, 0), (0, 1)]), 0, [[2, 0], [1]])
        self.check_refused("NotEven", net_of(3, [(0, 0), (2, 1)]), 0, [[0], [], [1]])

    def test_all_small_nets(self):
        for size, most in ((2, 3), (3, 3)):
            for roads in all_nets(size, most):
                if odd_places(size, roads):
                    for start in range(size):
                        self.check_refused("NotEven", net_of(size, roads), start, outs_of(size, roads))


class TestWhichRefusalComes(ByOrdersCase):
    def test_no_place_ahead_of_all(self):
        even, odd = net_of(2, [(0, 0), (1, 1)]), net_of(2, [(0, 1), (0, 0)])
        for net, rows in ((even, [[0], [1]]), (even, [[1], [0]]), (odd, [[0, 1], []]), (odd, []), (odd, [[0]])):
            for start in no_places(2):
                self.check_refused("NoPlace", net, start, rows)

    def test_no_orders_ahead_of_not_even(self):
        net = net_of(2, [(0, 1), (0, 0)])
        for start in (0, 1):
            for rows in ([], [[0, 1]], [[0], []], [[0, 0], []], [[0], [1]], [[0, -1], []], [[1, 0], [], []]):
                self.check_refused("NoOrders", net, start, rows)

    def test_no_orders_ahead_of_not_whole(self):
        net = net_of(3, [(0, 0), (1, 1)])
        for start in (0, 1, 2):
            for rows in ([[0], [], []], [[0], [1]], [[0], [1, 1], []], [[0], [1], [2]]):
                self.check_refused("NoOrders", net, start, rows)

    def test_not_even_ahead_of_not_whole(self):
        net = net_of(4, [(0, 0), (1, 1), (2, 1)])
        for start in range(4):
            self.check_refused("NotEven", net, start, [[0], [1], [2], []])


class TestThereAndBack(ByOrdersCase):
    def check_back(self, size, roads, circuit):
        net = net_of(size, roads)
        begin = roads[circuit[0]][0]
        self.assertEqual(by_orders(net, begin, orders(net, circuit)), circuit)

    def test_all_rounds_of_small_nets(self):
        for size, most in ((1, 4), (2, 5), (3, 4)):
            for roads in all_nets(size, most):
                for circuit in rounds_by_trying(roads):
                    for begun in turned(circuit):
                        self.check_back(size, roads, begun)

    def test_drawn_rounds(self):
        draw = Draw(13)
        for _ in range(60):
            size = 1 + draw.below(8)
            roads, circuit = drawn_round(draw, size, 1 + draw.below(24))
            for begun in turned(circuit) + turned(drawn_circuit(draw, roads)):
                self.check_back(size, roads, begun)

    def test_a_net_without_roads(self):
        for size in range(1, 9):
            self.assertEqual(by_orders(Net(size), size - 1, orders(Net(size), [])), [])


class TestToldIsTheAskersOwn(ByOrdersCase):
    def test_told_again_after_a_change(self):
        net = net_of(4, ROADS)
        before = state(net)
        handed = [list(row) for row in ROWS]
        told = by_orders(net, 0, handed)
        told.clear()
        self.assertEqual(handed, ROWS)
        self.assertEqual(state(net), before)
        self.assertEqual(by_orders(net, 0, handed), [0, 3, 1, 2, 4, 5])

    def test_what_is_told_is_none_of_the_lists(self):
        one = [[2, 0, 1]]
        told = by_orders(net_of(1, [(0, 0)] * 3), 0, one)
        self.assertEqual(told, [2, 0, 1])
        told.append(5)
        self.assertEqual(one, [[2, 0, 1]])
        none = [[]]
        by_orders(Net(1), 0, none).append(5)
        self.assertEqual(none, [[]])
        self.assertEqual(by_orders(Net(1), 0, [[]]), [])

    def test_what_is_handed_in_is_not_kept(self):
        net = net_of(4, ROADS)
        handed = [list(row) for row in ROWS]
        told = by_orders(net, 0, handed)
        handed[0].reverse()
        handed.clear()
        net.lay(3, 3)
        self.assertEqual(told, [0, 3, 1, 2, 4, 5])


if __name__ == "__main__":
    unittest.main()
