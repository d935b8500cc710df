import unittest

from everyroad.exchanges import chain
from everyroad.net import Net

from helper import (
    Draw, all_nets, drawn_circuit, drawn_round, net_of, refused, rounds_by_trying, spoiled, state, takes_each_once,
    turned,
)

# Two ways from 0 to 1 and back, a road from 1 to itself, and a bend over 2.
ROADS = [(0, 1), (1, 0), (0, 1), (1, 1), (1, 2), (2, 0)]
ROUND = [0, 3, 1, 2, 4, 5]
OTHER = [0, 4, 5, 2, 3, 1]


def is_exchange(one, after):
    """Whether the second list is the first one with two stretches exchanged.

    No road stands twice, so the stretches begin at the first spot and end at the last one where the lists differ.
    """
    spots = [k for k in range(len(one)) if one[k] != after[k]]
    if not spots:
        return False
    a, d = spots[0], spots[-1] + 1
    b, c = one.index(after[d - 1]) + 1, one.index(after[a])
    return a < b <= c < d and after == one[:a] + one[c:d] + one[b:c] + one[a:b] + one[d:]


class ChainCase(unittest.TestCase):
    def check(self, size, roads, one, other):
        net = net_of(size, roads)
        before = state(net)
        handed = (list(one), list(other))
        told = chain(net, handed[0], handed[1])
        self.assertEqual(handed, (one, other))
        self.assertEqual(state(net), before)
        self.assertEqual((told[0], told[-1]), (one, other))
        self.assertLessEqual(len(told), max(len(roads), 1), (roads, one, other))
        self.assertEqual(len(told) == 1, one == other)
        for circuit in told:
            self.assertTrue(takes_each_once(roads, circuit), (roads, circuit))
            self.assertEqual(circuit[:1], [0] if roads else [])
        for circuit, after in zip(told, told[1:]):
            self.assertTrue(is_exchange(circuit, after), (roads, circuit, after))
        self.check_lists(told, handed)
        return len(told)

    def check_lists(self, told, handed):
        every = [told] + told + list(handed)
        self.assertTrue(all(type(one) is list for one in every))
        self.assertEqual(len({id(one) for one in every}), len(every))


class TestChains(ChainCase):
    def test_is_exchange(self):
        self.assertTrue(is_exchange([0, 1, 2, 3], [0, 2, 1, 3]))
        self.assertTrue(is_exchange([0, 1, 2, 3], [0, 2, 3, 1]))
        self.assertTrue(is_exchange([0, 1, 2, 3], [0, 3, 2, 1]))
        self.assertFalse(is_exchange([0, 1, 2, 3], [0, 1, 2, 3]))
        self.assertFalse(is_exchange([0, 1, 2, 3, 4], [0, 4, 3, 2, 1]))
        self.assertFalse(is_exchange([0, 1, 2, 3, 4], [0, 3, 1, 4, 2]))

    def test_a_round_and_itself(self):
        for size, roads, circuit in ((1, [(0, 0)], [0]), (3, ROADS, ROUND), (1, [(0, 0)] * 3, [0, 2, 1])):
            self.assertEqual(chain(net_of(size, roads), circuit, list(circuit)), [circuit])
            self.assertEqual(self.check(size, roads, circuit, circuit), 1)

    def test_handed_in_as_one_list(self):
        handed = list(ROUND)
        told = chain(net_of(3, ROADS), handed, handed)
        self.assertEqual(told, [ROUND])
        self.assertIsNot(told[0], handed)

    def test_a_net_without_roads(self):
        for size in range(1, 9):
            self.assertEqual(chain(Net(size), [], []), [[]])
            self.check(size, [], [], [])

    def test_one_exchange(self):
        self.assertEqual(chain(net_of(1, [(0, 0)] * 3), [0, 1, 2], [0, 2, 1]), [[0, 1, 2], [0, 2, 1]])
        self.assertEqual(chain(net_of(2, [(0, 1), (1, 0)] * 2), [0, 1, 2, 3], [0, 3, 2, 1]),
                         [[0, 1, 2, 3], [0, 3, 2, 1]])

    def test_all_pairs_of_small_nets(self):
        pairs = 0
        for size, most in ((1, 5), (2, 5), (3, 4)):
            for roads in all_nets(size, most):
                circuits = rounds_by_trying(roads)
                for one in circuits:
                    for other in circuits:
                        self.check(size, roads, one, other)
                        pairs += one != other
        self.assertGreater(pairs, 1000)

    def test_all_pairs_of_some_nets(self):
        draw = Draw(41)
        for size in (1, 2, 3, 3, 4, 4, 5, 5, 6):
            roads, _ = drawn_round(draw, size, 6 if size == 1 else 7)
            circuits = draw.mixed(rounds_by_trying(roads))[:60]
            for one in circuits:
                for other in circuits:
                    self.check(size, roads, one, other)
        circuits = rounds_by_trying(ROADS)
        self.assertGreater(max(self.check(3, ROADS, one, other) for one in circuits for other in circuits), 2)

    def test_drawn_pairs_of_greater_nets(self):
        draw = Draw(42)
        longest = 0
        for turn in range(300):
            size = 1 + draw.below(8)
            roads, _ = drawn_round(draw, size, 24 if turn % 3 else 8 + draw.below(17))
            circuits = [drawn_circuit(draw, roads) for _ in range(3)]
            for one, other in zip(circuits, circuits[1:] + circuits[:1]):
                longest = max(longest, self.check(size, roads, one, other))
        self.assertGreater(longest, 8)

    def test_24_roads_against_the_grain(self):
        self.check(1, [(0, 0)] * 24, list(range(24)), [0] + list(range(23, 0, -1)))
        self.check(1, [(0, 0)] * 24, list(range(24)), [0] + list(range(2, 24)) + [1])
        self.check(2, [(0, 1), (1, 0)] * 12, list(range(24)), [0] + list(range(23, 0, -1)))
        draw = Draw(43)
        for _ in range(30):
            self.check(1, [(0, 0)] * 24, [0] + draw.mixed(range(1, 24)), [0] + draw.mixed(range(1, 24)))


class TestNoRound(ChainCase):
    def check_refused(self, net, one, other):
        before = state(net)
        handed = (list(one), list(other))
        refused(self, "NoRound", chain, net, handed[0], handed[1])
        self.assertEqual(handed, (one, other))
        self.assertEqual(state(net), before)

    def test_either_is_no_round(self):
        net = net_of(3, ROADS)
        for wrong in list(spoiled(ROUND)) + [[], [0], [0, 3, 1, 2, 5, 4], [0, 3, 2, 1, 4, 5]]:
            self.check_refused(net, wrong, ROUND)
            self.check_refused(net, OTHER, wrong)
            self.check_refused(net, wrong, wrong)

    def test_either_begins_with_another_road(self):
        net = net_of(3, ROADS)
        for begun in turned(ROUND)[1:]:
            self.assertTrue(takes_each_once(ROADS, begun))
            self.check_refused(net, begun, ROUND)
            self.check_refused(net, ROUND, begun)
            self.check_refused(net, OTHER, begun)
            self.check_refused(net, begun, begun)
        self.check_refused(net_of(1, [(0, 0)] * 2), [1, 0], [1, 0])

    def test_nets_without_rounds(self):
        self.check_refused(net_of(2, [(0, 1)]), [0], [0])
        self.check_refused(net_of(2, [(0, 0), (1, 1)]), [0, 1], [0, 1])
        self.check_refused(net_of(2, [(0, 0), (1, 1)]), [], [])

    def test_a_net_without_roads(self):
        self.check_refused(Net(1), [0], [])
        self.check_refused(Net(1), [], [0])
        self.check_refused(Net(8), [-1], [-1])


class TestToldIsTheAskersOwn(ChainCase):
    def test_told_again_after_a_change(self):
        net = net_of(3, ROADS)
        before = state(net)
        one, other = list(ROUND), list(OTHER)
        for _ in range(2):
            told = chain(net, one, other)
            for circuit in told:
                circuit.append(9)
            told.clear()
            self.assertEqual((one, other), (ROUND, OTHER))
            self.assertEqual(state(net), before)
        self.check(3, ROADS, ROUND, OTHER)

    def test_the_empty_round_too(self):
        one = []
        chain(Net(1), one, one)[0].append(3)
        self.assertEqual(one, [])
        self.assertEqual(chain(Net(1), [], []), [[]])

    def test_what_is_handed_in_is_not_kept(self):
        net = net_of(3, ROADS)
        one, other = list(ROUND), list(OTHER)
        told = chain(net, one, other)
        kept = [list(circuit) for circuit in told]
        one.clear()
        other.reverse()
        net.lay(0, 0)
        self.assertEqual(told, kept)


if __name__ == "__main__":
    unittest.main()
