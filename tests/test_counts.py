import unittest
from functools import lru_cache

from everyroad.counts import all_rounds, round_count
from everyroad.net import Net

from helper import (
    Draw, all_nets, drawn_even_roads, drawn_round, net_of, odd_places, parts_of, rounds_by_trying, state,
    takes_each_once,
)


def count_by_walking(roads):
    """How many rounds begin with road 0: all walks, roads alike taken together."""
    kinds = sorted(set(roads))
    home = roads[0][0]

    @lru_cache(maxsize=None)
    def walks(place, left):
        if not any(left):
            return 1 if place == home else 0
        total = 0
        for k, kind in enumerate(kinds):
            if kind[0] == place and left[k]:
                total += left[k] * walks(kind[1], left[:k] + (left[k] - 1,) + left[k + 1:])
        return total

    return walks(roads[0][1], tuple(roads[1:].count(kind) for kind in kinds))


def product_below(count):
    """The product of 1 to one less than this."""
    found = 1
    for factor in range(1, count):
        found *= factor
    return found


class CountsCase(unittest.TestCase):
    def check(self, size, roads):
        """Looks at all rounds of a small net, and gives back how many there are."""
        net = net_of(size, roads)
        before = state(net)
        told = all_rounds(net)
        self.assertEqual(told, rounds_by_trying(roads), roads)
        self.assertEqual(round_count(net), len(told), roads)
        self.assertEqual(state(net), before)
        return len(told)

    def check_count(self, size, roads, count):
        net = net_of(size, roads)
        before = state(net)
        told = round_count(net)
        self.assertIs(type(told), int)
        self.assertEqual(told, count, roads)
        self.assertEqual(state(net), before)


class TestByHand(CountsCase):
    def test_a_net_without_roads(self):
        for size in range(1, 9):
            self.assertEqual(round_count(Net(size)), 1)
            self.assertEqual(all_rounds(Net(size)), [[]])

    def test_one_round(self):
        for size, roads, circuit in (
            (1, [(0, 0)], [0]), (8, [(7, 7)], [0]), (2, [(1, 0), (0, 1)], [0, 1]),
            (4, [(3, 1), (2, 3), (1, 2)], [0, 2, 1]), (2, [(0, 1), (1, 0), (1, 1)], [0, 2, 1]),
        ):
            self.assertEqual(round_count(net_of(size, roads)), 1)
            self.assertEqual(all_rounds(net_of(size, roads)), [circuit])

    def test_several_rounds_ascending(self):
        net = net_of(2, [(0, 1), (0, 1), (1, 0), (1, 1), (1, 0)])
        self.assertEqual(all_rounds(net), [
            [0, 2, 1, 3, 4], [0, 3, 2, 1, 4], [0, 3, 4, 1, 2], [0, 4, 1, 3, 2],
        ])
        self.assertEqual(round_count(net), 4)
        self.assertEqual(all_rounds(net_of(1, [(0, 0)] * 3)), [[0, 1, 2], [0, 2, 1]])

    def test_one_place(self):
        for count in range(1, 8):
            self.assertEqual(self.check(1, [(0, 0)] * count), product_below(count))

    def test_an_odd_place(self):
        for size, roads in (
            (2, [(0, 1)]), (2, [(0, 1), (1, 0), (0, 1)]), (3, [(0, 1), (1, 2)]), (3, [(0, 0), (0, 1), (2, 0)]),
            (4, [(0, 0), (2, 3)]), (8, [(k, (k + 1) % 8) for k in range(7)]),
        ):
            self.assertEqual(round_count(net_of(size, roads)), 0)
            self.assertEqual(all_rounds(net_of(size, roads)), [])

    def test_several_parts(self):
        for size, roads in (
            (2, [(0, 0), (1, 1)]), (4, [(0, 1), (1, 0), (2, 3), (3, 2)]), (8, [(k, k) for k in range(8)]),
            (8, [(7, 7), (0, 0)]), (3, [(0, 0), (2, 2), (2, 2), (0, 0)]),
        ):
            self.assertEqual(round_count(net_of(size, roads)), 0)
            self.assertEqual(all_rounds(net_of(size, roads)), [])


class TestSmallNets(CountsCase):
    def test_all_small_nets(self):
        for size, most in ((1, 6), (2, 5), (3, 4), (4, 3)):
            for roads in all_nets(size, most):
                self.check(size, roads)

    def test_drawn_rounds(self):
        draw = Draw(23)
        counts = [self.check(size, drawn_round(draw, size, 3 + draw.below(4))[0]) for size in range(1, 9)
                  for _ in range(12)]
        self.assertGreater(len(set(counts)), 5)
        self.assertNotIn(0, counts)

    def test_drawn_even_nets(self):
        draw = Draw(24)
        for turn in range(100):
            size = 2 + turn % 7
            roads = drawn_even_roads(draw, size)
            if len(roads) < 8:
                self.check(size, roads)

    def test_eight_roads(self):
        draw = Draw(25)
        for size in range(1, 9):
            self.check(size, drawn_round(draw, size, 8)[0])
        self.check(8, [(k, (k + 1) % 8) for k in range(8)])
        self.check(4, [(k // 2, (k * 2 + k // 4) % 4) for k in range(8)])

    def test_a_few_roads_more(self):
        roads = [(0, 1), (1, 0)] * 5
        told = all_rounds(net_of(2, roads))
        self.assertEqual(len(told), 120 * 24)
        self.assertEqual(told, sorted(told))
        self.assertEqual(len({tuple(one) for one in told}), len(told))
        self.assertTrue(all(takes_each_once(roads, one) and one[0] == 0 for one in told))


class TestCountsOfGreatNets(CountsCase):
    def test_24_roads_by_hand(self):
        self.check_count(1, [(0, 0)] * 24, product_below(24))
        self.check_count(8, [(5, 5)] * 24, product_below(24))
        self.check_count(2, [(0, 1), (1, 0)] * 12, 12 * product_below(12) ** 2)
        ring = [(k, (k + 1) % 8) for k in range(8)]
        self.check_count(8, ring * 3, 3 ** 7 * 2 ** 8)
        self.check_count(8, (ring * 3)[::-1], 3 ** 7 * 2 ** 8)
        self.check_count(8, ring * 2 + [(k, k) for k in range(8)], 2 ** 7 * 2 ** 8)

    def test_windows_of_two_signs(self):
        # Rings of two signs that have each window of 4 once: 16.
        self.check_count(8, [(k >> 1, k & 7) for k in range(16)], 16)
        self.check_count(4, [(k >> 1, k & 3) for k in range(8)], 2)

    def test_24_roads_that_have_no_round(self):
        ring = [(k, (k + 1) % 8) for k in range(8)]
        self.check_count(8, ring * 2 + ring[:7] + [(0, 0)], 0)
        self.check_count(8, [(0, 1), (1, 0), (2, 3), (3, 2)] * 6, 0)

    def test_drawn_nets_of_24_roads(self):
        draw = Draw(26)
        seen = set()
        while len(seen) < 40:
            size = 1 + draw.below(8)
            # A few closed walks, each taken several times.
            bends = [drawn_round(draw, size, 1 + draw.below(4))[0] for _ in range(3)]
            roads = draw.mixed(bends[0] * 3 + bends[1] * 2 + bends[2])
            roads += [roads[0][:1] * 2] * (24 - len(roads))
            if len(roads) == 24 and not odd_places(size, roads):
                count = count_by_walking(roads)
                self.assertEqual(count == 0, len(parts_of(roads)) > 1)
                self.check_count(size, roads, count)
                seen.add(count)

    def test_drawn_rounds_of_many_roads(self):
        draw = Draw(27)
        for size in range(1, 9):
            for _ in range(3):
                roads, _ = drawn_round(draw, size, 13)
                self.check_count(size, roads, count_by_walking(roads))


class TestToldIsTheAskersOwn(CountsCase):
    def test_told_again_after_a_change(self):
        for size, roads in ((3, []), (1, [(0, 0)]), (2, [(0, 1), (0, 1), (1, 0), (1, 0)]), (2, [(0, 1)])):
            net = net_of(size, roads)
            before = state(net)
            told = all_rounds(net)
            for one in told:
                one.append(7)
            told.append([1])
            self.assertEqual(state(net), before)
            self.check(size, roads)
            self.assertEqual(all_rounds(net), rounds_by_trying(roads))

    def test_no_two_lists_are_one(self):
        for size, roads in ((3, []), (1, [(0, 0)]), (1, [(0, 0)] * 4), (2, [(0, 1)])):
            net = net_of(size, roads)
            one, other = all_rounds(net), all_rounds(net)
            told = [net.roads, one, other] + one + other
            self.assertEqual(len({id(row) for row in told}), len(told))
            self.assertTrue(all(type(row) is list for row in told))

    def test_told_anew_after_one_more_road(self):
        net = net_of(2, [(0, 1), (1, 0)])
        first = all_rounds(net)
        self.assertEqual((round_count(net), first), (1, [[0, 1]]))
        net.lay(0, 1)
        self.assertEqual((round_count(net), all_rounds(net)), (0, []))
        net.lay(1, 0)
        self.assertEqual((round_count(net), all_rounds(net)), (2, [[0, 1, 2, 3], [0, 3, 2, 1]]))
        self.assertEqual(first, [[0, 1]])


if __name__ == "__main__":
    unittest.main()
