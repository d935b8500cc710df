"""What one module tells is handed to the others."""

import unittest
from math import factorial

from everyroad.counts import all_rounds, round_count, trees
from everyroad.errors import NoExchange
from everyroad.exchanges import chain, exchanged
from everyroad.net import parts
from everyroad.notes import read, written
from everyroad.orders import by_orders, last_tree, orders
from everyroad.rides import ride_need, rides
from everyroad.rounds import find, is_round
from everyroad.windows import ring, ring_round, window_net

from helper import ROOM, Draw, drawn_circuit, drawn_even_roads, drawn_roads, drawn_round, net_of, state, turned


def nets_with_a_round(draw, turns):
    """Drawn nets that have roads and a round, and the nets of windows."""
    nets = [window_net(signs, length) for signs, length in ROOM]
    for turn in range(turns):
        size = 1 + turn % 8
        nets.append(net_of(size, drawn_round(draw, size, 1 + draw.below(24))[0]))
    return nets


def back(bounds):
    """The bounds that exchange the two stretches back again."""
    a, b, c, d = bounds
    return a, a + d - c, d - b + a, d


class TestRoundsHandedOn(unittest.TestCase):
    def check_round(self, net, circuit):
        """What the others say of a round that one of them told."""
        begin = net.roads[circuit[0]][0]
        self.assertTrue(is_round(net, circuit))
        self.assertEqual(by_orders(net, begin, orders(net, circuit)), circuit)
        self.assertEqual(
            [row[-1] if row and place != begin else None for place, row in enumerate(orders(net, circuit))],
            last_tree(net, circuit),
        )

    def test_a_round_found(self):
        draw = Draw(81)
        for net in nets_with_a_round(draw, 100):
            kind, circuit = find(net)
            self.assertEqual((kind, circuit[0]), ("round", 0))
            for begun in turned(circuit):
                self.check_round(net, begun)

    def test_a_ride_that_takes_all_is_a_round(self):
        draw = Draw(82)
        for net in nets_with_a_round(draw, 100):
            told = rides(net)
            self.assertEqual((len(told), ride_need(net), len(parts(net))), (1, 1, 1))
            self.check_round(net, told[0])

    def test_chains_between_rounds_told_in_several_ways(self):
        draw = Draw(83)
        for net in nets_with_a_round(draw, 60):
            ride = rides(net)[0]
            spot = ride.index(0)
            for one, other in (
                (find(net)[1], drawn_circuit(draw, net.roads)),
                (drawn_circuit(draw, net.roads), ride[spot:] + ride[:spot]),
            ):
                told = chain(net, one, other)
                self.assertEqual((told[0], told[-1]), (one, other))
                self.assertLessEqual(len(told), len(net.roads))
                for row in told:
                    self.check_round(net, row)

    def test_each_exchange_of_a_round_is_among_all_rounds(self):
        draw = Draw(84)
        net = net_of(2, drawn_round(draw, 2, 6)[0])
        found = all_rounds(net)
        seen = 0
        for circuit in found:
            for bounds in ((1, 2, 2, 3), (1, 2, 3, 4), (1, 3, 4, 6), (2, 3, 4, 5), (2, 4, 5, 6), (1, 2, 4, 6)):
                try:
                    told = exchanged(net, circuit, bounds)
                except NoExchange:
                    continue
                self.assertIn(told, found)
                self.assertEqual(exchanged(net, told, back(bounds)), circuit)
                seen += 1
        self.assertGreater(seen, 5)

    def test_as_many_rounds_as_are_counted(self):
        draw = Draw(85)
        for turn in range(60):
            size = 1 + turn % 8
            net = net_of(size, drawn_round(draw, size, 1 + draw.below(7))[0])
            found = all_rounds(net)
            self.assertEqual(len(found), round_count(net))
            self.assertIn(find(net)[1], found)
            for circuit in found:
                self.check_round(net, circuit)


class TestWhyThereIsNoRound(unittest.TestCase):
    def test_what_is_told_fits_together(self):
        draw = Draw(86)
        seen = set()
        for turn in range(400):
            size = 1 + turn % 8
            net = net_of(size, drawn_even_roads(draw, size) if turn % 3 else drawn_roads(draw, size))
            kind, told = find(net)
            seen.add(kind)
            self.assertEqual(kind == "round", round_count(net) > 0)
            if kind == "odd":
                self.assertNotEqual(len(net.outs(told)), len(net.ins(told)))
            else:
                self.assertEqual(ride_need(net), len(parts(net)))
            if kind == "apart":
                inside = [part for part in parts(net) if part[0] in told]
                self.assertTrue(inside and len(inside) < len(parts(net)))
                self.assertTrue(all(place in told for part in inside for place in part))
        self.assertEqual(seen, {"round", "odd", "apart"})


class TestWindowsHandedOn(unittest.TestCase):
    def test_rounds_of_the_net_of_windows(self):
        for signs, length in ROOM:
            net = window_net(signs, length)
            self.assertEqual(len(parts(net)), 1)
            # The rings of so many signs and windows so long, each begun with its first window.
            count = factorial(signs) ** net.size // signs ** length
            self.assertEqual(round_count(net), count)
            each = signs ** net.size // signs ** length
            self.assertEqual([trees(net, place) for place in range(net.size)], [each] * net.size)

    def test_exchanges_of_rings(self):
        net = window_net(2, 4)
        found = all_rounds(net)
        self.assertEqual(len(found), 16)
        for circuit in found:
            for told in chain(net, found[0], circuit):
                self.assertEqual(ring_round(2, 4, ring(2, told)), told)
                self.assertIn(told, found)

    def test_a_ring_of_a_ride(self):
        for signs, length in ROOM:
            ride = rides(window_net(signs, length))[0]
            self.assertEqual(ring_round(signs, length, ring(signs, ride)), ride)


class TestNotesHandedOn(unittest.TestCase):
    def answers(self, net):
        told = [state(net), parts(net), find(net), round_count(net), rides(net), ride_need(net)]
        told += [trees(net, place) for place in range(net.size)]
        if find(net)[0] == "round":
            circuit = find(net)[1]
            told += [orders(net, circuit), last_tree(net, circuit), chain(net, circuit, circuit)]
        if len(net.roads) <= 6:
            told.append(all_rounds(net))
        return told

    def test_a_net_read_answers_like_the_one_written(self):
        draw = Draw(87)
        nets = nets_with_a_round(draw, 40)
        nets += [net_of(1 + turn % 8, drawn_roads(draw, 1 + turn % 8)) for turn in range(80)]
        for net in nets:
            self.assertEqual(self.answers(read(written(net))), self.answers(net))

    def test_parts_and_rides_of_a_net_read(self):
        net = read("net 6\n0>1\n0>1\n3>3\n4>5\n5>4")
        self.assertEqual(parts(net), [[0, 1], [3], [4, 5]])
        self.assertEqual((ride_need(net), len(rides(net))), (4, 4))


if __name__ == "__main__":
    unittest.main()
