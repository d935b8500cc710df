import unittest
from functools import lru_cache

from everyroad.net import Net
from everyroad.rides import ride_need, rides

from helper import (
    Draw, all_nets, drawn_even_roads, drawn_roads, drawn_round, net_of, no_two_one, odd_places, parts_of, state,
    takes_each_once,
)


def surplus_of(roads, part):
    """How many roads more lead than come, together, over those places of the part that have more."""
    starts = [start for start, _ in roads]
    goals = [goal for _, goal in roads]
    more = [starts.count(place) - goals.count(place) for place in part]
    return sum(count for count in more if count > 0)


def need_by_reckoning(roads):
    total = 0
    for part in parts_of(roads):
        total += surplus_of(roads, part) or 1
    return total


def fewest_by_trying(roads):
    """The least count of rides: any road may be taken next, and if it doesn't lead on, a ride begins with it."""

    @lru_cache(maxsize=None)
    def fewest(last, left):
        if not left:
            return 0
        counts = []
        for road in left:
            begins = last is None or roads[last][1] != roads[road][0]
            counts.append(begins + fewest(road, left - {road}))
        return min(counts)

    return fewest(None, frozenset(range(len(roads))))


def drawn_ride(draw, size, length):
    """The roads of one ride, one behind the other."""
    stops = [draw.below(size) for _ in range(length + 1)]
    return list(zip(stops, stops[1:]))


def side_by_side(*nets):
    """The roads of several nets, each a pair of size and roads, as parts of one."""
    roads = []
    below = 0
    for size, own in nets:
        roads += [(start + below, goal + below) for start, goal in own]
        below += size
    return roads


class RidesCase(unittest.TestCase):
    def check(self, size, roads):
        """Looks at the rides of a net, and gives back how many there are."""
        net = net_of(size, roads)
        before = state(net)
        told = rides(net)
        self.check_rides(roads, told)
        need = ride_need(net)
        self.assertIs(type(need), int)
        self.assertEqual(need, len(told), roads)
        self.assertEqual(state(net), before)
        return need

    def check_rides(self, roads, told):
        self.assertIs(type(told), list)
        for ride in told:
            self.assertIs(type(ride), list)
            self.assertNotEqual(ride, [], roads)
            for one, after in zip(ride, ride[1:]):
                self.assertEqual(roads[one][1], roads[after][0], (roads, told))
        self.assertEqual(sorted(road for ride in told for road in ride), list(range(len(roads))), (roads, told))
        self.assertEqual(len(told), need_by_reckoning(roads), (roads, told))


class TestByHand(RidesCase):
    def test_a_net_without_roads(self):
        for size in range(1, 9):
            self.assertEqual(rides(Net(size)), [])
            self.assertEqual(ride_need(Net(size)), 0)

    def test_one_road(self):
        for size, road in ((1, (0, 0)), (2, (0, 1)), (2, (1, 0)), (8, (7, 7)), (8, (7, 0)), (8, (3, 5))):
            self.assertEqual(rides(net_of(size, [road])), [[0]])
            self.assertEqual(ride_need(net_of(size, [road])), 1)

    def test_one_way_through(self):
        self.assertEqual(rides(net_of(4, [(2, 3), (0, 1), (1, 2)])), [[1, 2, 0]])
        self.assertEqual(rides(net_of(8, [(k, k + 1) for k in range(7)])), [[0, 1, 2, 3, 4, 5, 6]])
        # A bend at the place in the midst, at the first one and at the last one.
        for place in range(3):
            self.assertEqual(self.check(3, [(0, 1), (1, 2), (place, place)]), 1)
            self.assertEqual(self.check(4, [(0, 1), (1, 2), (place, 3), (3, place)]), 1)
            self.assertEqual(self.check(4, [(place, 3), (3, 3), (3, place), (1, 2), (0, 1)]), 1)

    def test_roads_that_do_not_lead_on(self):
        self.assertEqual(sorted(rides(net_of(2, [(0, 1), (0, 1)]))), [[0], [1]])
        self.assertEqual(ride_need(net_of(2, [(0, 1)] * 24)), 24)
        self.assertEqual(len(rides(net_of(2, [(0, 1)] * 24))), 24)
        self.assertEqual(self.check(8, [(0, k) for k in range(1, 8)]), 7)
        self.assertEqual(self.check(8, [(k, 0) for k in range(1, 8)]), 7)
        self.assertEqual(self.check(8, [(k, 0) for k in range(1, 4)] + [(0, k) for k in range(4, 8)]), 4)
        self.assertEqual(self.check(8, [(k, 0) for k in range(1, 5)] + [(0, k) for k in range(5, 8)]), 4)

    def test_a_bend_that_two_rides_could_take(self):
        # Both rides go through 1, where a bend waits with a bend of its own.
        self.assertEqual(self.check(8, [(0, 1), (1, 2), (3, 1), (1, 4), (1, 5), (5, 6), (6, 5), (5, 1), (6, 6)]), 2)

    def test_a_place_of_which_more_lead_between_others(self):
        self.assertEqual(self.check(3, [(0, 1), (1, 2), (1, 2)]), 2)
        self.assertEqual(self.check(3, [(1, 0), (2, 1), (1, 0)]), 2)
        self.assertEqual(self.check(4, [(0, 1), (0, 1), (1, 2), (1, 2), (1, 2), (2, 3), (2, 3), (2, 3), (2, 3)]), 4)


class TestNetsThatHaveARound(RidesCase):
    def check_one(self, size, roads):
        self.assertEqual(self.check(size, roads), 1)
        self.assertTrue(takes_each_once(roads, rides(net_of(size, roads))[0]))

    def test_by_hand(self):
        self.check_one(1, [(0, 0)])
        self.check_one(1, [(0, 0)] * 24)
        self.check_one(8, [(7, 7)] * 3)
        self.check_one(2, [(0, 1), (1, 0)] * 12)
        self.check_one(3, [(0, 1), (1, 2), (2, 0), (1, 1)])
        self.check_one(4, [(2, 3), (3, 2), (2, 2), (3, 3), (2, 2)])
        self.check_one(8, [(k, (k + 1) % 8) for k in range(8)] * 3)
        # Bends within bends, each hung on at another place.
        self.check_one(8, [road for k in range(7) for road in ((k, k + 1), (k + 1, k), (k, k))])

    def test_drawn(self):
        draw = Draw(51)
        for turn in range(200):
            size = 1 + draw.below(8)
            self.check_one(size, drawn_round(draw, size, 24 if turn % 4 == 0 else 1 + draw.below(24))[0])


class TestSeveralParts(RidesCase):
    def test_parts_that_have_rounds(self):
        self.assertEqual(self.check(2, [(0, 0), (1, 1)]), 2)
        self.assertEqual(self.check(8, [(k, k) for k in range(8)]), 8)
        self.assertEqual(self.check(8, [(k, k) for k in range(8)] * 3), 8)
        self.assertEqual(self.check(8, [(7, 6), (0, 1), (1, 0), (6, 7)]), 2)

    def test_parts_that_have_none(self):
        self.assertEqual(self.check(4, [(0, 1), (2, 3)]), 2)
        self.assertEqual(self.check(8, [(0, 1), (0, 1), (2, 3), (5, 4), (6, 7), (6, 7), (6, 7)]), 7)

    def test_some_that_have_and_some_that_have_none(self):
        self.assertEqual(self.check(3, [(0, 1), (2, 2)]), 2)
        self.assertEqual(self.check(3, [(0, 0), (1, 2)]), 2)
        self.assertEqual(self.check(3, [(2, 1), (0, 0), (2, 1), (0, 0)]), 3)
        self.assertEqual(self.check(8, [(0, 1), (1, 0), (2, 3), (2, 4), (5, 5), (6, 7), (7, 6), (6, 6)]), 5)

    def test_drawn_side_by_side(self):
        draw = Draw(52)
        seen = set()
        for _ in range(300):
            nets = []
            while sum(size for size, _ in nets) < 7 and sum(len(own) for _, own in nets) < 12:
                size = 1 + draw.below(min(3, 8 - sum(size for size, _ in nets)))
                length = 1 + draw.below(6)
                own = drawn_round(draw, size, length)[0] if draw.below(2) else drawn_ride(draw, size, length)
                nets.append((size, own))
            roads = draw.mixed(side_by_side(*nets))
            self.check(8, roads)
            wanting = [surplus_of(roads, part) > 0 for part in parts_of(roads)]
            seen.add((wanting.count(True), wanting.count(False)))
        self.assertGreater(len([1 for some, none in seen if some and none]), 5)


class TestSmallNets(RidesCase):
    def test_all_small_nets_and_no_fewer_rides_do(self):
        for size, most in ((1, 6), (2, 5), (3, 4), (4, 3)):
            for roads in all_nets(size, most):
                self.assertEqual(self.check(size, roads), fewest_by_trying(roads), roads)

    def test_drawn_and_no_fewer_rides_do(self):
        draw = Draw(53)
        for turn in range(90):
            size = 1 + turn % 8
            roads = [(draw.below(size), draw.below(size)) for _ in range(5 + turn % 4)]
            self.assertEqual(self.check(size, roads), fewest_by_trying(roads), roads)


class TestGreatNets(RidesCase):
    def test_drawn_anyhow(self):
        draw = Draw(54)
        needs = set()
        for turn in range(500):
            size = 1 + turn % 8
            needs.add(self.check(size, drawn_roads(draw, size)))
        self.assertGreater(len(needs), 8)

    def test_drawn_with_24_roads(self):
        draw = Draw(55)
        for turn in range(300):
            size = 1 + turn % 8
            self.check(size, [(draw.below(size), draw.below(size)) for _ in range(24)])

    def test_drawn_even(self):
        draw = Draw(56)
        for turn in range(300):
            size = 1 + turn % 8
            roads = drawn_even_roads(draw, size)
            self.assertEqual(odd_places(size, roads), [])
            self.assertEqual(self.check(size, roads), len(parts_of(roads)))

    def test_nets_made_of_some_rides_need_no_more(self):
        draw = Draw(57)
        fewer = 0
        for turn in range(400):
            size = 1 + turn % 8
            made = [drawn_ride(draw, size, 1 + draw.below(5)) for _ in range(1 + draw.below(5))]
            roads = draw.mixed([road for ride in made for road in ride][:24])
            need = self.check(size, roads)
            self.assertLessEqual(need, len(made), roads)
            fewer += need < len(made)
        self.assertGreater(fewer, 50)

    def test_nets_made_of_one_ride_need_one(self):
        draw = Draw(58)
        for turn in range(200):
            size = 1 + turn % 8
            self.assertEqual(self.check(size, draw.mixed(drawn_ride(draw, size, 1 + draw.below(24)))), 1)


class TestToldIsTheAskersOwn(RidesCase):
    NETS = (
        (3, []), (1, [(0, 0)]), (2, [(0, 1), (1, 0)]), (2, [(0, 1), (0, 1)]),
        (8, [(0, 1), (1, 0), (2, 3), (2, 4), (5, 5), (6, 7), (7, 6), (6, 6)]),
    )

    def test_told_again_after_a_change(self):
        for size, roads in self.NETS:
            net = net_of(size, roads)
            before = state(net)
            told = rides(net)
            for ride in told:
                ride.clear()
            told.append([7])
            self.assertEqual(state(net), before)
            self.check_rides(roads, rides(net))
            self.assertEqual(ride_need(net), need_by_reckoning(roads))
            self.check(size, roads)

    def test_no_two_lists_are_one(self):
        for size, roads in self.NETS:
            net = net_of(size, roads)
            no_two_one(self, net, rides(net), rides(net))

    def test_told_anew_after_one_more_road(self):
        net = net_of(3, [(0, 1)])
        first = rides(net)
        net.lay(2, 2)
        self.assertEqual((ride_need(net), sorted(rides(net))), (2, [[0], [1]]))
        net.lay(1, 2)
        self.assertEqual((ride_need(net), rides(net)), (1, [[0, 2, 1]]))
        self.assertEqual(first, [[0]])


if __name__ == "__main__":
    unittest.main()
