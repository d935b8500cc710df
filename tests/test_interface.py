"""The interface as the document tells it, and what it promises of every function at once."""

import inspect
import unittest
from copy import deepcopy
from importlib import import_module

from everyroad import errors
from everyroad.counts import all_rounds, round_count, trees
from everyroad.exchanges import chain, exchanged
from everyroad.net import Net, parts
from everyroad.notes import read, written
from everyroad.orders import by_orders, last_tree, orders
from everyroad.rides import ride_need, rides
from everyroad.rounds import find, is_round
from everyroad.windows import ring, ring_round, window_net

from helper import REFUSALS, lists_in, net_of, no_two_one, refused, state

INTERFACE = {
    "net": {"parts": "net"},
    "rounds": {"is_round": "net circuit", "find": "net"},
    "orders": {"orders": "net circuit", "last_tree": "net circuit", "by_orders": "net start rows"},
    "counts": {"trees": "net place", "round_count": "net", "all_rounds": "net"},
    "exchanges": {"exchanged": "net circuit bounds", "chain": "net one other"},
    "rides": {"rides": "net", "ride_need": "net"},
    "windows": {"window_net": "signs length", "ring": "signs circuit", "ring_round": "signs length told"},
    "notes": {"written": "net", "read": "text"},
}

# Two roads each way between 0 and 1, one from 1 to itself; 2 without roads.
EVEN = (3, [(0, 1), (0, 1), (1, 0), (1, 1), (1, 0)])
ODD = (3, [(0, 1), (0, 1), (1, 2)])
APART = (4, [(0, 0), (1, 2), (2, 1)])
BARE = (2, [])
FULL = (8, [(k, (k + 1) % 8) for k in range(8)] * 3)

# Each function with what is handed in, nets told by their places and roads.
ANSWERED = (
    (parts, EVEN), (parts, ODD), (parts, APART), (parts, BARE), (parts, FULL),
    (is_round, EVEN, [0, 2, 1, 3, 4]), (is_round, EVEN, [0, 1]), (is_round, BARE, []),
    (find, EVEN), (find, ODD), (find, APART), (find, BARE), (find, FULL),
    (orders, EVEN, [3, 4, 0, 2, 1]), (orders, BARE, []), (last_tree, EVEN, [3, 4, 0, 2, 1]), (last_tree, BARE, []),
    (by_orders, EVEN, 0, [[0, 1], [2, 3, 4], []]), (by_orders, BARE, 1, [[], []]),
    (trees, EVEN, 1), (trees, ODD, 2), (trees, BARE, 0), (round_count, EVEN), (round_count, ODD), (round_count, FULL),
    (all_rounds, EVEN), (all_rounds, ODD), (all_rounds, APART), (all_rounds, BARE),
    (exchanged, EVEN, [0, 2, 1, 3, 4], (1, 2, 3, 5)),
    (chain, EVEN, [0, 2, 1, 3, 4], [0, 3, 4, 1, 2]), (chain, EVEN, [0, 2, 1, 3, 4], [0, 2, 1, 3, 4]), (chain, BARE, [], []),
    (rides, EVEN), (rides, ODD), (rides, APART), (rides, BARE), (rides, FULL), (ride_need, ODD), (ride_need, BARE),
    (window_net, 2, 3), (window_net, 1, 30), (ring, 2, [0, 1, 3, 2]), (ring_round, 2, 2, [0, 1, 1, 0]),
    (written, EVEN), (written, BARE), (read, "net 3\n0>1\n2>2"), (read, "net 1"),
)
REFUSED = (
    ("NoRound", orders, EVEN, [0, 1]), ("NoRound", last_tree, EVEN, []), ("NoRound", orders, ODD, [0, 2, 1]),
    ("NoPlace", by_orders, EVEN, 3, [[0], []]), ("NoOrders", by_orders, ODD, 0, [[0], [2], []]),
    ("NotEven", by_orders, ODD, 0, [[0, 1], [2], []]), ("NotWhole", by_orders, EVEN, 0, [[0, 1], [2, 4, 3], []]),
    ("NotWhole", by_orders, APART, 3, [[0], [1], [2], []]), ("NoPlace", trees, EVEN, -1),
    ("NoRound", exchanged, EVEN, [0, 1, 2], (3, 2, 1, 0)), ("NoExchange", exchanged, EVEN, [0, 2, 1, 3, 4], (0, 1, 1, 6)),
    ("NoExchange", exchanged, EVEN, [0, 2, 1, 3, 4], (0, 1, 1, 2)),
    ("NoRound", chain, EVEN, [2, 1, 3, 4, 0], [0, 2, 1, 3, 4]), ("NoRound", chain, EVEN, [0, 2, 1, 3, 4], [1]),
    ("NoWindows", window_net, 0, 1), ("NoWindows", window_net, 25, 1), ("NoWindows", ring_round, 5, 2, [7]),
    ("NoRing", ring_round, 2, 2, [0, 1, 0, 1]), ("NoRing", ring_round, 2, 2, []), ("NoRing", ring_round, 2, 2, [0, 1, 2, 0]),
    ("NoNote", read, ""), ("NoNote", read, "net 1\n0>1"), ("NoNote", read, "net 1" + "\n0>0" * 25),
    ("NoNote", read, "net 9"), ("TooMany", Net, 0), ("TooMany", Net, 9),
)


def made(given):
    """What is handed in, made anew: nets of their places and roads, and copies of all else."""
    nets = (EVEN, ODD, APART, BARE, FULL)
    return [net_of(*one) if any(one is told for told in nets) else deepcopy(one) for one in given]


def shown(value):
    """What can be compared of a value, as a copy: of a net all that it tells."""
    if isinstance(value, Net):
        return state(value)
    if isinstance(value, (list, tuple)):
        return [type(value).__name__] + [shown(one) for one in value]
    return value


def spoil(value):
    """Changes every list of a value."""
    for row in lists_in(value):
        row.append(5)
        row.reverse()


class TestNames(unittest.TestCase):
    def test_functions_and_their_arguments(self):
        for name, functions in INTERFACE.items():
            module = import_module("everyroad." + name)
            for one, given in functions.items():
                function = getattr(module, one)
                self.assertTrue(inspect.isfunction(function), one)
                self.assertEqual(function.__module__, "everyroad." + name)
                self.assertEqual(list(inspect.signature(function).parameters), given.split(), one)

    def test_nets(self):
        self.assertEqual(list(inspect.signature(Net).parameters), ["size"])
        for name, given in (("lay", "start goal"), ("outs", "place"), ("ins", "place")):
            self.assertEqual(list(inspect.signature(getattr(Net(1), name)).parameters), given.split())

    def test_they_can_be_handed_in_by_name(self):
        net = Net(size=2)
        self.assertEqual((net.lay(start=0, goal=1), net.lay(1, 0)), (0, 1))
        self.assertEqual((net.outs(place=0), net.ins(place=0)), ([0], [1]))
        self.assertEqual(by_orders(net=net, start=1, rows=[[0], [1]]), [1, 0])
        self.assertEqual(chain(net=net, one=[0, 1], other=[0, 1]), [[0, 1]])
        self.assertEqual(rides(net=net), [[0, 1]])
        self.assertEqual(ride_need(net=net), 1)
        self.assertEqual(window_net(signs=2, length=1).roads, [(0, 0), (0, 0)])
        self.assertEqual(ring(signs=2, circuit=[1, 0]), [1, 0])
        self.assertEqual(ring_round(signs=2, length=1, told=[1, 0]), [1, 0])
        self.assertEqual(written(net=read(text="net 2\n0>1")), "net 2\n0>1")

    def test_each_function_is_looked_at_here(self):
        names = {one for functions in INTERFACE.values() for one in functions}
        self.assertEqual({row[0].__name__ for row in ANSWERED}, names)
        self.assertEqual({row[0] for row in REFUSED}, set(REFUSALS))


class TestAnswers(unittest.TestCase):
    def test_what_is_handed_in_stays(self):
        for call, *given in ANSWERED:
            handed = made(given)
            before = shown(handed)
            call(*handed)
            self.assertEqual(shown(handed), before, call)

    def test_the_same_is_told_again(self):
        for call, *given in ANSWERED:
            self.assertEqual(shown(call(*made(given))), shown(call(*made(given))), call)

    def test_no_two_lists_are_one(self):
        for call, *given in ANSWERED:
            handed = made(given)
            no_two_one(self, handed, call(*handed), call(*handed))

    def test_what_is_told_can_be_changed(self):
        for call, *given in ANSWERED:
            handed = made(given)
            before = shown(handed)
            told = call(*handed)
            first = shown(told)
            spoil(told)
            self.assertEqual(shown(handed), before, call)
            self.assertEqual(shown(call(*handed)), first, call)
            self.assertEqual(shown(call(*made(given))), first, call)

    def test_what_was_handed_in_is_not_kept(self):
        for call, *given in ANSWERED:
            handed = made(given)
            told = call(*handed)
            first = shown(told)
            for one in handed:
                if isinstance(one, Net):
                    one.roads.clear()
                else:
                    spoil(one)
            self.assertEqual(shown(told), first, call)
            self.assertEqual(shown(call(*made(given))), first, call)


class TestRefusals(unittest.TestCase):
    def test_what_is_refused_changes_nothing(self):
        for name, call, *given in REFUSED:
            handed = made(given)
            before = shown(handed)
            refused(self, name, call, *handed)
            self.assertEqual(shown(handed), before, (name, call))
            refused(self, name, call, *handed)

    def test_laying_that_is_refused_changes_nothing(self):
        net = net_of(*FULL)
        before = state(net)
        refused(self, "TooMany", net.lay, 0, 0)
        refused(self, "NoPlace", net.lay, 0, 8)
        refused(self, "NoPlace", net.outs, 8)
        refused(self, "NoPlace", net.ins, -1)
        self.assertEqual(state(net), before)

    def test_left_is_the_askers_own(self):
        net = net_of(*APART)
        rows = [[0], [1], [2], []]
        one = refused(self, "NotWhole", by_orders, net, 0, rows)
        other = refused(self, "NotWhole", by_orders, net, 0, rows)
        self.assertEqual((one.left, other.left), ([1, 2], [1, 2]))
        no_two_one(self, net, rows, one.left, other.left)
        one.left.clear()
        self.assertEqual(refused(self, "NotWhole", by_orders, net, 0, rows).left, [1, 2])

    def test_each_is_caught_as_road_error_and_as_value_error(self):
        for name, call, *given in REFUSED:
            for wider in (getattr(errors, name), errors.RoadError, ValueError):
                with self.assertRaises(wider):
                    call(*made(given))


if __name__ == "__main__":
    unittest.main()
