import unittest
from itertools import permutations

from everyroad.net import Net, parts
from everyroad.rounds import find, is_round

from helper import (
    Draw, all_nets, drawn_even_roads, drawn_roads, net_of, odd_places, parts_of, state, takes_each_once,
)


class FindCase(unittest.TestCase):
    def check_pair(self, told):
        self.assertIs(type(told), tuple)
        self.assertEqual(len(told), 2)

    def check_round(self, roads, circuit):
        self.assertIs(type(circuit), list)
        self.assertTrue(takes_each_once(roads, circuit), (roads, circuit))
        self.assertEqual(circuit[:1], [0] if roads else [])

    def check_odd(self, size, roads, place):
        self.assertIs(type(place), int)
        self.assertIn(place, odd_places(size, roads), roads)

    def check_apart(self, size, roads, places):
        self.assertIs(type(places), list)
        self.assertEqual(places, sorted(set(places)), roads)
        self.assertTrue(all(place in range(size) for place in places), roads)
        within = [start in places for start, _ in roads]
        self.assertIn(True, within, roads)
        self.assertIn(False, within, roads)
        self.assertEqual(within, [goal in places for _, goal in roads], roads)

    def check(self, size, roads):
        """Looks at what is told of a net, and gives back which of the three it is."""
        net = net_of(size, roads)
        before = state(net)
        told = find(net)
        self.assertEqual(state(net), before)
        self.check_pair(told)
        if odd_places(size, roads):
            self.assertEqual(told[0], "odd", roads)
            self.check_odd(size, roads, told[1])
        elif len(parts_of(roads)) > 1:
            self.assertEqual(told[0], "apart", roads)
            self.check_apart(size, roads, told[1])
        else:
            self.assertEqual(told[0], "round", roads)
            self.check_round(roads, told[1])
            self.assertIs(is_round(net, told[1]), True)
        return told[0]


class TestRound(FindCase):
    def test_a_net_without_roads(self):
        for size in range(1, 9):
            self.assertEqual(find(Net(size)), ("round", []))

    def test_the_only_round(self):
        self.assertEqual(find(net_of(1, [(0, 0)])), ("round", [0]))
        self.assertEqual(find(net_of(8, [(7, 7)])), ("round", [0]))
        self.assertEqual(find(net_of(2, [(1, 0), (0, 1)])), ("round", [0, 1]))
        self.assertEqual(find(net_of(4, [(3, 1), (2, 3), (1, 2)])), ("round", [0, 2, 1]))

    def test_detours(self):
        # Each place but the first has a bend that a walk can miss.
        for bend in ([(1, 1)], [(2, 2), (2, 2)], [(1, 3), (3, 1)], [(2, 4), (4, 3), (3, 2)]):
            for roads in ([(0, 1), (1, 2), (2, 0)] + bend, bend + [(0, 1), (1, 2), (2, 0)]):
                self.assertEqual(self.check(6, roads), "round")
                self.assertEqual(self.check(6, roads[::-1]), "round")

    def test_road_0_anywhere(self):
        roads = [(0, 1), (1, 0), (0, 2), (2, 0), (1, 2), (2, 1), (1, 1)]
        for turn in range(7):
            self.assertEqual(self.check(3, roads[turn:] + roads[:turn]), "round")

    def test_24_roads(self):
        self.assertEqual(self.check(1, [(0, 0)] * 24), "round")
        self.assertEqual(self.check(2, [(1, 0), (0, 1)] * 12), "round")
        self.assertEqual(self.check(8, [(k % 8, (k + 1) % 8) for k in range(24)]), "round")
        self.assertEqual(self.check(8, [(k * 3 % 8, (k + 1) * 3 % 8) for k in range(24)][::-1]), "round")
        star = [(0, k) for k in range(1, 8)] + [(k, 0) for k in range(1, 8)]
        self.assertEqual(self.check(8, star + [(k, k) for k in range(8)]), "round")


class TestOdd(FindCase):
    def test_one_road(self):
        self.assertEqual(self.check(2, [(0, 1)]), "odd")
        self.assertEqual(self.check(8, [(7, 6)]), "odd")

    def test_wherever_it_is(self):
        ring = [(k, (k + 1) % 8) for k in range(8)]
        for start in range(8):
            for goal in range(8):
                told = self.check(8, ring + [(start, goal)])
                self.assertEqual(told, "round" if start == goal else "odd")

    def test_more_lead_or_more_come(self):
        self.assertEqual(self.check(3, [(0, 1), (0, 2)]), "odd")
        self.assertEqual(self.check(3, [(1, 0), (2, 0)]), "odd")
        self.assertEqual(self.check(3, [(0, 1), (0, 1), (1, 0)]), "odd")

    def test_several_parts_too(self):
        self.assertEqual(self.check(4, [(0, 0), (2, 3)]), "odd")
        self.assertEqual(self.check(4, [(3, 3), (0, 1)]), "odd")
        self.assertEqual(self.check(8, [(0, 1), (1, 0), (2, 3), (3, 2), (6, 7)]), "odd")
        self.assertEqual(self.check(4, [(0, 1), (3, 2)]), "odd")


class TestApart(FindCase):
    def test_two_parts(self):
        self.assertEqual(self.check(2, [(0, 0), (1, 1)]), "apart")
        self.assertEqual(self.check(8, [(7, 7), (6, 6)]), "apart")
        self.assertEqual(self.check(5, [(4, 0), (0, 4), (1, 3), (3, 1)]), "apart")

    def test_more_parts(self):
        self.assertEqual(self.check(8, [(k, k) for k in range(8)]), "apart")
        self.assertEqual(self.check(8, [(5, 2), (2, 5), (1, 7), (7, 1), (4, 4), (4, 4)]), "apart")

    def test_joined_by_one_more_bend(self):
        roads = [(0, 1), (1, 0), (2, 3), (3, 2)]
        self.assertEqual(self.check(4, roads), "apart")
        self.assertEqual(self.check(4, roads + [(3, 0)]), "odd")
        self.assertEqual(self.check(4, roads + [(3, 0), (0, 3)]), "round")


class TestManyNets(FindCase):
    def test_all_small_nets(self):
        for size, most in ((1, 4), (2, 5), (3, 4), (4, 3)):
            for roads in all_nets(size, most):
                told = self.check(size, roads)
                if len(roads) < 5:
                    tried = permutations(range(len(roads)))
                    found = any(takes_each_once(roads, list(one)) for one in tried)
                    self.assertEqual(told == "round", found, roads)

    def test_drawn_nets(self):
        draw = Draw(4)
        for _ in range(300):
            size = 1 + draw.below(8)
            self.check(size, drawn_roads(draw, size))

    def test_drawn_even_nets(self):
        draw = Draw(5)
        seen = [self.check(size, drawn_even_roads(draw, size)) for size in range(1, 9) for _ in range(150)]
        self.assertGreater(seen.count("round"), 100)
        self.assertGreater(seen.count("apart"), 100)
        self.assertEqual(seen.count("odd"), 0)

    def test_drawn_nets_short_of_one_road(self):
        draw = Draw(6)
        for _ in range(300):
            size = 1 + draw.below(8)
            self.check(size, drawn_even_roads(draw, size)[1:])


class TestToldIsTheAskersOwn(FindCase):
    def test_a_round_may_be_changed(self):
        roads = [(0, 1), (1, 0), (1, 1)]
        net = net_of(2, roads)
        before = state(net)
        told = find(net)[1]
        told.clear()
        self.assertEqual(state(net), before)
        self.check_round(roads, find(net)[1])
        self.assertEqual(told, [])

    def test_the_empty_round_may_be_changed(self):
        net = Net(2)
        find(net)[1].append(5)
        self.assertEqual(find(net), ("round", []))
        self.assertEqual(find(Net(1)), ("round", []))
        self.assertEqual(state(net), state(Net(2)))

    def test_a_list_of_places_may_be_changed(self):
        roads = [(0, 0), (1, 2), (2, 1)]
        net = net_of(4, roads)
        before = state(net)
        told = find(net)[1]
        told.extend([3, 3])
        self.assertEqual(state(net), before)
        self.check_apart(4, roads, find(net)[1])
        self.assertEqual(parts(net), [[0], [1, 2]])

    def test_no_two_lists_are_one(self):
        for roads in ([], [(0, 0)], [(0, 0), (1, 1)]):
            net = net_of(2, roads)
            told = [find(net)[1], find(net)[1], net.roads, net.outs(0)] + parts(net)
            self.assertEqual(len({id(one) for one in told}), len(told))

    def test_nothing_hangs_on_the_net_later(self):
        net = net_of(2, [(0, 0)])
        first = find(net)
        net.lay(1, 1)
        second = find(net)
        self.check_apart(2, [(0, 0), (1, 1)], second[1])
        kept = list(second[1])
        net.lay(0, 1)
        self.assertEqual(find(net)[0], "odd")
        net.lay(1, 0)
        self.assertEqual(find(net)[0], "round")
        self.check_round([(0, 0), (1, 1), (0, 1), (1, 0)], find(net)[1])
        self.assertEqual(first, ("round", [0]))
        self.assertEqual(second, ("apart", kept))

    def test_asked_again_the_same_is_told(self):
        draw = Draw(7)
        for _ in range(50):
            size = 1 + draw.below(8)
            roads = drawn_even_roads(draw, size)
            self.assertEqual(find(net_of(size, roads)), find(net_of(size, roads)))


if __name__ == "__main__":
    unittest.main()
