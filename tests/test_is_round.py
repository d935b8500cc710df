import unittest
from itertools import product

from everyroad.net import Net
from everyroad.rounds import is_round

from helper import Draw, all_nets, drawn_round, net_of, state, takes_each_once, turned

# Two ways from 0 to 1 and back, a road from 1 to itself, and a bend over 2.
ROADS = [(0, 1), (1, 0), (0, 1), (1, 1), (1, 2), (2, 0)]
ROUND = [0, 3, 1, 2, 4, 5]


class TestRounds(unittest.TestCase):
    def setUp(self):
        self.net = net_of(3, ROADS)

    def test_begun_at_any_of_its_roads(self):
        for circuit in turned(ROUND) + turned([0, 1, 2, 3, 4, 5]) + turned([0, 4, 5, 2, 3, 1]):
            self.assertIs(is_round(self.net, circuit), True, circuit)

    def test_one_road(self):
        self.assertIs(is_round(net_of(1, [(0, 0)]), [0]), True)
        self.assertIs(is_round(net_of(8, [(7, 7)]), [0]), True)
        self.assertIs(is_round(net_of(2, [(0, 1)]), [0]), False)

    def test_a_net_without_roads(self):
        for size in range(1, 9):
            self.assertIs(is_round(Net(size), []), True)
            self.assertIs(is_round(Net(size), [0]), False)
            self.assertIs(is_round(Net(size), [-1]), False)
        self.assertIs(is_round(self.net, []), False)

    def test_places_without_roads_do_no_harm(self):
        self.assertIs(is_round(net_of(8, [(6, 3), (3, 6)]), [1, 0]), True)

    def test_24_roads(self):
        net = net_of(8, [(k % 8, (k + 1) % 8) for k in range(24)])
        for circuit in turned(list(range(24))):
            self.assertIs(is_round(net, circuit), True)
        self.assertIs(is_round(net, list(range(23))), False)


class TestNoRounds(unittest.TestCase):
    def setUp(self):
        self.net = net_of(3, ROADS)

    def refuse(self, circuit):
        self.assertIs(is_round(self.net, circuit), False, circuit)

    def test_a_road_left_out(self):
        for spot in range(6):
            self.refuse(ROUND[:spot] + ROUND[spot + 1:])
        # What is left still joins and closes.
        self.refuse([0, 1, 2, 4, 5])
        self.refuse([0, 1])

    def test_a_road_twice(self):
        for spot in range(6):
            self.refuse(ROUND[:spot] + [ROUND[spot]] + ROUND[spot:])
        self.refuse([0, 3, 3, 1, 2, 4, 5])
        self.refuse(ROUND + ROUND)

    def test_a_road_in_the_place_of_another(self):
        for spot, road in product(range(6), repeat=2):
            if ROUND[spot] != road:
                self.refuse(ROUND[:spot] + [road] + ROUND[spot + 1:])
        # Roads 0 and 2 are alike, so this joins and closes.
        self.refuse([0, 3, 1, 0, 4, 5])

    def test_two_exchanged(self):
        for one, other in product(range(6), repeat=2):
            changed = list(ROUND)
            changed[one], changed[other] = changed[other], changed[one]
            self.assertIs(is_round(self.net, changed), takes_each_once(ROADS, changed), changed)
        self.refuse([3, 0, 1, 2, 4, 5])
        self.refuse([0, 3, 2, 1, 4, 5])
        self.refuse([0, 3, 1, 2, 5, 4])

    def test_numbers_that_are_no_roads(self):
        for wrong in (-1, -6, -7, 6, 7, 24, 10 ** 9, -10 ** 9, 10 ** 5000):
            for spot in range(6):
                self.assertFalse(is_round(self.net, ROUND[:spot] + [wrong] + ROUND[spot + 1:]))
                self.assertFalse(is_round(self.net, ROUND[:spot] + [wrong] + ROUND[spot:]))
        # Counted from behind, each of these would be the right road.
        for spot in range(6):
            self.refuse(ROUND[:spot] + [ROUND[spot] - 6] + ROUND[spot + 1:])
        self.refuse([road - 6 for road in ROUND])
        self.refuse([road + 1 for road in ROUND])

    def test_the_last_does_not_end_where_the_first_begins(self):
        self.assertIs(is_round(net_of(3, [(0, 1), (1, 2)]), [0, 1]), False)
        self.assertIs(is_round(net_of(2, [(0, 0), (0, 1)]), [0, 1]), False)
        self.assertIs(is_round(net_of(2, [(0, 1), (1, 0), (0, 1)]), [0, 1, 2]), False)

    def test_only_one_joint_is_wrong(self):
        self.assertIs(is_round(net_of(3, [(0, 1), (2, 0)]), [0, 1]), False)
        self.assertIs(is_round(net_of(4, [(0, 1), (1, 2), (3, 0)]), [0, 1, 2]), False)
        self.assertIs(is_round(net_of(4, [(0, 1), (2, 3), (3, 0)]), [0, 1, 2]), False)

    def test_against_the_roads(self):
        net = net_of(3, [(0, 1), (1, 2), (2, 0)])
        self.assertIs(is_round(net, [0, 1, 2]), True)
        self.assertIs(is_round(net, [2, 1, 0]), False)


class TestManyLists(unittest.TestCase):
    def test_all_small_nets_and_lists(self):
        for size, most in ((1, 3), (2, 3)):
            for roads in all_nets(size, most):
                net = net_of(size, roads)
                for length in range(len(roads) + 2):
                    for circuit in product(range(-1, len(roads) + 1), repeat=length):
                        told = is_round(net, list(circuit))
                        self.assertIs(told, takes_each_once(roads, list(circuit)), (roads, circuit))

    def test_drawn_closed_walks(self):
        draw = Draw(3)
        for _ in range(400):
            size = 1 + draw.below(8)
            count = 1 + draw.below(24)
            roads, numbers = drawn_round(draw, size, count)
            net = net_of(size, roads)
            self.assertIs(is_round(net, numbers), True)
            one, other = draw.below(count), draw.below(count)
            numbers[one], numbers[other] = numbers[other], numbers[one]
            self.assertIs(is_round(net, numbers), takes_each_once(roads, numbers))


class TestNothingChanges(unittest.TestCase):
    def test_the_list_and_the_net_stay(self):
        net = net_of(3, ROADS)
        before = state(net)
        for circuit in ([3, 1, 2, 4, 5, 0], [5, 4, 3, 2, 1, 0], [2, -1, 9], []):
            handed = list(circuit)
            is_round(net, handed)
            self.assertEqual(handed, circuit)
            self.assertEqual(state(net), before)

    def test_what_is_handed_in_is_not_kept(self):
        net = net_of(3, ROADS)
        handed = list(ROUND)
        self.assertIs(is_round(net, handed), True)
        handed.reverse()
        self.assertIs(is_round(net, handed), False)
        handed.reverse()
        self.assertIs(is_round(net, handed), True)
        net.lay(0, 0)
        self.assertIs(is_round(net, handed), False)
        handed.append(6)
        self.assertIs(is_round(net, handed), True)


if __name__ == "__main__":
    unittest.main()
