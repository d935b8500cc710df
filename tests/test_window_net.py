import unittest
from itertools import product

from everyroad.net import Net
from everyroad.windows import window_net

from helper import FAR, ROOM, net_of, no_two_one, refused, state

BELOW = (0, -1, -2, -3, -24, -25) + tuple(number for number in FAR if number < 0)
BEYOND = (25, 26, 27, 48, 64) + tuple(number for number in FAR if number > 0)


def rows(signs, length):
    """All rows of so many signs: they come by their numbers."""
    return list(product(range(signs), repeat=length))


def roads_by_looking(signs, length):
    """Each window from the one of its signs but the last, to the one of its signs but the first."""
    places = rows(signs, length - 1)
    return [(places.index(row[:-1]), places.index(row[1:])) for row in rows(signs, length)]


class WindowsCase(unittest.TestCase):
    def check(self, signs, length):
        net = window_net(signs, length)
        self.assertIs(type(net), Net)
        self.assertEqual(net.size, len(rows(signs, length - 1)))
        self.assertEqual(net.roads, roads_by_looking(signs, length))
        self.assertEqual(state(net), state(net_of(net.size, roads_by_looking(signs, length))))
        self.assertTrue(all(type(road) is tuple for road in net.roads))


class TestWindows(WindowsCase):
    def test_by_hand(self):
        self.assertEqual(window_net(2, 1).roads, [(0, 0), (0, 0)])
        self.assertEqual(window_net(2, 2).roads, [(0, 0), (0, 1), (1, 0), (1, 1)])
        self.assertEqual(window_net(2, 3).roads, [(0, 0), (0, 1), (1, 2), (1, 3), (2, 0), (2, 1), (3, 2), (3, 3)])
        self.assertEqual(
            window_net(3, 2).roads,
            [(0, 0), (0, 1), (0, 2), (1, 0), (1, 1), (1, 2), (2, 0), (2, 1), (2, 2)],
        )
        self.assertEqual([window_net(*given).size for given in ((2, 1), (2, 2), (2, 3), (2, 4), (3, 2), (4, 2))],
                         [1, 2, 4, 8, 3, 4])

    def test_all_that_a_net_has_room_for(self):
        for signs, length in ROOM:
            with self.subTest(signs=signs, length=length):
                self.check(signs, length)

    def test_one_sign(self):
        for length in range(1, 31):
            net = window_net(1, length)
            self.assertEqual((net.size, net.roads), (1, [(0, 0)]))
            self.check(1, length)

    def test_length_one(self):
        for signs in range(1, 25):
            net = window_net(signs, 1)
            self.assertEqual((net.size, net.roads), (1, [(0, 0)] * signs))


class TestNoWindows(WindowsCase):
    def test_too_few_signs(self):
        for signs in BELOW:
            for length in (1, 2, 3, 4, 5, 30):
                refused(self, "NoWindows", window_net, signs, length)

    def test_too_short(self):
        for length in BELOW:
            for signs in (1, 2, 3, 4, 5, 24) + BEYOND:
                refused(self, "NoWindows", window_net, signs, length)

    def test_too_few_signs_and_too_short(self):
        for signs in BELOW:
            for length in BELOW:
                refused(self, "NoWindows", window_net, signs, length)

    def test_just_beyond(self):
        for signs, length in ((25, 1), (5, 2), (3, 3), (2, 5)):
            refused(self, "NoWindows", window_net, signs, length)

    def test_far_beyond(self):
        for signs in BEYOND:
            for length in range(1, 31):
                refused(self, "NoWindows", window_net, signs, length)

    def test_all_others(self):
        others = [given for given in product(range(1, 31), repeat=2) if given not in ROOM]
        for signs, length in others:
            self.assertTrue(signs ** length > 24 or signs ** (length - 1) > 8)
            refused(self, "NoWindows", window_net, signs, length)


class TestToldIsTheAskersOwn(WindowsCase):
    def test_a_road_can_be_laid(self):
        for signs, length in [given for given in ROOM if given[0] < 24]:
            net = window_net(signs, length)
            count = len(net.roads)
            self.assertEqual(net.lay(net.size - 1, 0), count)
            self.assertEqual(net.roads[count:], [(net.size - 1, 0)])
            self.check(signs, length)

    def test_none_beyond_the_24th(self):
        net = window_net(24, 1)
        refused(self, "TooMany", net.lay, 0, 0)
        self.check(24, 1)

    def test_no_two_lists_are_one(self):
        for signs, length in ROOM:
            no_two_one(self, window_net(signs, length), window_net(signs, length))

    def test_told_anew_after_a_change(self):
        net = window_net(2, 2)
        net.roads.clear()
        net.size = 8
        self.check(2, 2)


if __name__ == "__main__":
    unittest.main()
