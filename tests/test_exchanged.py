import unittest
from itertools import product

from everyroad.exchanges import exchanged
from everyroad.net import Net

from helper import (
    Draw, all_nets, drawn_circuit, drawn_round, net_of, refused, rounds_by_trying, spoiled, state, takes_each_once,
    turned,
)

# Two ways from 0 to 1 and back, a road from 1 to itself, and a bend over 2.
ROADS = [(0, 1), (1, 0), (0, 1), (1, 1), (1, 2), (2, 0)]
ROUND = [0, 3, 1, 2, 4, 5]


def by_pieces(circuit, bounds):
    """The list with the two stretches exchanged; None if these are no two stretches."""
    a, b, c, d = bounds
    if not (a >= 0 and b > a and c >= b and d > c and len(circuit) >= d):
        return None
    changed = []
    for low, high in ((0, a), (c, d), (b, c), (a, b), (d, len(circuit))):
        changed += [circuit[k] for k in range(low, high)]
    return changed


class ExchangedCase(unittest.TestCase):
    def check_refused(self, name, net, circuit, bounds):
        before = state(net)
        handed = list(circuit)
        refused(self, name, exchanged, net, handed, bounds)
        self.assertEqual(handed, circuit)
        self.assertEqual(state(net), before)

    def check(self, size, roads, circuit, bounds):
        """Looks at one exchange of a round, and gives back whether a round comes of it."""
        net = net_of(size, roads)
        changed = by_pieces(circuit, bounds)
        if changed is None or not takes_each_once(roads, changed):
            self.check_refused("NoExchange", net, circuit, bounds)
            return False
        before = state(net)
        handed = list(circuit)
        told = exchanged(net, handed, bounds)
        self.assertIs(type(told), list)
        self.assertEqual(told, changed)
        self.assertEqual(handed, circuit)
        self.assertEqual(state(net), before)
        return True


class TestRounds(ExchangedCase):
    def test_by_hand(self):
        net = net_of(3, ROADS)
        # What lies between, ahead and behind stays.
        self.assertEqual(exchanged(net, [1, 2, 4, 5, 0, 3], (1, 2, 4, 6)), [1, 0, 3, 4, 5, 2])
        self.assertEqual(exchanged(net, [5, 0, 3, 1, 2, 4], (1, 3, 4, 5)), [5, 2, 1, 0, 3, 4])
        self.assertEqual(exchanged(net, [5, 0, 3, 1, 2, 4], (1, 2, 4, 5)), [5, 2, 3, 1, 0, 4])

    def test_stretches_that_touch(self):
        net = net_of(1, [(0, 0)] * 5)
        self.assertEqual(exchanged(net, [0, 1, 2, 3, 4], (1, 2, 2, 4)), [0, 2, 3, 1, 4])
        self.assertEqual(exchanged(net_of(3, ROADS), [0, 3, 1, 2, 4, 5], (1, 2, 2, 4)), [0, 1, 2, 3, 4, 5])

    def test_that_begin_at_nought_and_end_at_the_lists_length(self):
        net = net_of(1, [(0, 0)] * 4)
        self.assertEqual(exchanged(net, [0, 1, 2, 3], (0, 1, 2, 3)), [2, 1, 0, 3])
        self.assertEqual(exchanged(net, [0, 1, 2, 3], (1, 2, 2, 4)), [0, 2, 3, 1])
        self.assertEqual(exchanged(net, [0, 1, 2, 3], (0, 1, 3, 4)), [3, 1, 2, 0])
        self.assertEqual(exchanged(net, [0, 1, 2, 3], (0, 3, 3, 4)), [3, 0, 1, 2])
        self.assertEqual(exchanged(net, [0, 1, 2, 3], (0, 2, 2, 4)), [2, 3, 0, 1])

    def test_a_round_in_two_is_a_round_begun_elsewhere(self):
        for spot in range(1, 6):
            self.assertEqual(exchanged(net_of(3, ROADS), ROUND, (0, spot, spot, 6)), ROUND[spot:] + ROUND[:spot])

    def test_all_bounds(self):
        seen = []
        for circuit in turned(ROUND):
            seen += [self.check(3, ROADS, circuit, bounds) for bounds in product(range(-1, 8), repeat=4)]
        self.assertGreater(seen.count(True), 30)

    def test_all_small_nets(self):
        for size, most in ((1, 4), (2, 4)):
            for roads in all_nets(size, most):
                for circuit in rounds_by_trying(roads):
                    for bounds in product(range(-1, len(roads) + 2), repeat=4):
                        self.check(size, roads, circuit, bounds)

    def test_drawn_nets(self):
        draw = Draw(31)
        seen = []
        for turn in range(60):
            size = 1 + draw.below(8)
            roads, circuit = drawn_round(draw, size, 24 if turn % 2 else 1 + draw.below(24))
            count = len(roads)
            for one in (circuit, drawn_circuit(draw, roads)):
                for _ in range(40):
                    bounds = sorted(draw.below(count + 1) for _ in range(4))
                    seen.append(self.check(size, roads, one, tuple(bounds)))
        self.assertGreater(seen.count(True), 100)
        self.assertGreater(seen.count(False), 100)


class TestNoExchange(ExchangedCase):
    # All roads lead alike: whatever is exchanged, a round comes of it, so the bounds alone are refused.
    def setUp(self):
        self.net = net_of(1, [(0, 0)] * 5)
        self.circuit = [2, 0, 1, 4, 3]

    def refuse(self, *bounds):
        self.check_refused("NoExchange", self.net, self.circuit, bounds)

    def test_bounds_below_nought(self):
        self.refuse(-1, 1, 2, 3)
        self.refuse(-5, 1, 2, 3)
        self.refuse(-5, -4, 2, 3)
        self.refuse(-4, -3, -2, -1)
        self.refuse(-10 ** 5000, 1, 2, 3)
        self.refuse(0, 1, -3, -1)

    def test_bounds_out_of_order(self):
        self.refuse(0, 3, 2, 4)
        self.refuse(2, 3, 0, 1)
        self.refuse(1, 0, 2, 3)
        self.refuse(0, 1, 3, 2)
        self.refuse(4, 3, 2, 1)
        self.refuse(0, 4, 1, 5)

    def test_empty_stretches(self):
        self.refuse(0, 0, 1, 2)
        self.refuse(0, 1, 2, 2)
        self.refuse(0, 1, 1, 1)
        self.refuse(2, 2, 2, 2)
        self.refuse(0, 0, 0, 0)
        self.refuse(5, 5, 5, 5)

    def test_beyond_the_length(self):
        self.refuse(0, 1, 2, 6)
        self.refuse(0, 1, 5, 6)
        self.refuse(3, 4, 4, 6)
        self.refuse(0, 1, 2, 10 ** 5000)
        self.refuse(6, 7, 8, 9)

    def test_what_comes_is_no_round(self):
        net = net_of(3, ROADS)
        for bounds in ((0, 1, 1, 2), (0, 1, 2, 3), (1, 2, 2, 3), (0, 1, 5, 6), (1, 2, 4, 6)):
            self.assertFalse(takes_each_once(ROADS, by_pieces(ROUND, bounds)))
            self.check_refused("NoExchange", net, ROUND, bounds)

    def test_too_few_roads(self):
        for bounds in product(range(-1, 3), repeat=4):
            self.check_refused("NoExchange", Net(2), [], bounds)
            self.check_refused("NoExchange", net_of(1, [(0, 0)]), [0], bounds)
        self.assertEqual(exchanged(net_of(1, [(0, 0)] * 2), [0, 1], (0, 1, 1, 2)), [1, 0])


class TestNoRound(ExchangedCase):
    def test_lists_that_are_no_rounds(self):
        net = net_of(3, ROADS)
        for circuit in list(spoiled(ROUND)) + [[], [3, 0, 1, 2, 4, 5], [0, 3, 1, 2, 5, 4]]:
            self.check_refused("NoRound", net, circuit, (0, 1, 3, 4))
        self.check_refused("NoRound", Net(1), [0], (0, 1, 1, 2))

    def test_also_where_a_round_would_come(self):
        changed = [3, 0, 1, 2, 4, 5]
        self.assertEqual(by_pieces(changed, (0, 1, 1, 2)), ROUND)
        self.check_refused("NoRound", net_of(3, ROADS), changed, (0, 1, 1, 2))

    def test_no_round_comes_ahead_of_no_exchange(self):
        net = net_of(3, ROADS)
        for circuit in ([], [0], [3, 0, 1, 2, 4, 5], ROUND + [0], [-1] + ROUND[1:]):
            for bounds in ((0, 0, 0, 0), (-1, 0, 1, 2), (0, 1, 2, 99), (3, 2, 1, 0), (0, 1, 1, 3)):
                self.check_refused("NoRound", net, circuit, bounds)
        self.check_refused("NoRound", net_of(2, [(0, 1)]), [0], (0, 0, 0, 0))


class TestToldIsTheAskersOwn(ExchangedCase):
    def test_told_again_after_a_change(self):
        net = net_of(1, [(0, 0)] * 4)
        before = state(net)
        handed = [0, 1, 2, 3]
        bounds = (0, 1, 2, 4)
        told = exchanged(net, handed, bounds)
        told.clear()
        self.assertEqual((handed, bounds), ([0, 1, 2, 3], (0, 1, 2, 4)))
        self.assertEqual(state(net), before)
        self.assertEqual(exchanged(net, handed, bounds), [2, 3, 1, 0])

    def test_what_is_handed_in_is_not_kept(self):
        net = net_of(1, [(0, 0)] * 4)
        handed = [0, 1, 2, 3]
        told = exchanged(net, handed, (0, 1, 2, 4))
        handed.reverse()
        net.lay(0, 0)
        self.assertEqual(told, [2, 3, 1, 0])


if __name__ == "__main__":
    unittest.main()
