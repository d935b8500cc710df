import unittest
from itertools import product

from everyroad.counts import all_rounds
from everyroad.orders import by_orders, orders
from everyroad.rounds import find
from everyroad.windows import ring, ring_round, window_net

from helper import FAR, ROOM, Draw, drawn_circuit, no_two_one, refused, takes_each_once, turned

NO_ROOM = (
    (0, 1), (-1, 1), (0, 0), (1, 0), (2, 0), (2, -1), (24, 0), (-2, 2), (-1, -1), (25, 1), (5, 2), (3, 3), (2, 5),
    (2, 30), (10 ** 5000, 1), (-10 ** 5000, 1), (1, -10 ** 5000), (10 ** 40, 30), (100, 1),
)


def windows_read_round(length, told):
    """The windows that begin at each place of the row."""
    return [tuple(told[(spot + k) % len(told)] for k in range(length)) for spot in range(len(told))]


def has_each_once(signs, length, told):
    return sorted(windows_read_round(length, told)) == list(product(range(signs), repeat=length))


def round_by_looking(signs, length, told):
    """To each sign the number of the window that ends there: its place among all windows."""
    windows = list(product(range(signs), repeat=length))
    begun = [windows.index(window) for window in windows_read_round(length, told)]
    return [begun[(spot - length + 1) % len(told)] for spot in range(len(told))]


def drawn_rounds(draw, signs, length):
    """Some rounds of the net of windows, begun at each of their roads."""
    net = window_net(signs, length)
    found = [find(net)[1]]
    for _ in range(3):
        circuit = drawn_circuit(draw, net.roads)
        found.append(by_orders(net, net.roads[circuit[0]][0], orders(net, circuit)))
    return [begun for circuit in found for begun in turned(circuit)]


class RingsCase(unittest.TestCase):
    def check(self, signs, length, circuit):
        """Looks at the ring of a round, and the round of this ring."""
        handed = list(circuit)
        told = ring(signs, handed)
        self.assertEqual(handed, circuit)
        self.assertIs(type(told), list)
        self.assertEqual(len(told), signs ** length)
        self.assertTrue(has_each_once(signs, length, told), told)
        self.assertEqual(round_by_looking(signs, length, told), circuit)
        row = list(told)
        back = ring_round(signs, length, row)
        self.assertEqual(row, told)
        self.assertIs(type(back), list)
        self.assertEqual(back, circuit)

    def check_no_ring(self, signs, length, told):
        row = list(told)
        refused(self, "NoRing", ring_round, signs, length, row)
        self.assertEqual(row, told)


class TestByHand(RingsCase):
    def test_rings(self):
        self.assertEqual(ring(1, [0]), [0])
        self.assertEqual(ring(3, [2, 0, 1]), [2, 0, 1])
        self.assertEqual(ring(2, [0, 1, 3, 2]), [0, 1, 1, 0])
        self.assertEqual(ring(2, [3, 2, 0, 1]), [1, 0, 0, 1])
        self.assertEqual(ring(2, [0, 1, 2, 5, 3, 7, 6, 4]), [0, 1, 0, 1, 1, 1, 0, 0])
        self.assertEqual(ring(3, [0, 1, 4, 5, 8, 7, 3, 2, 6]), [0, 1, 1, 2, 2, 1, 0, 2, 0])

    def test_rounds_of_rings(self):
        self.assertEqual(ring_round(1, 1, [0]), [0])
        self.assertEqual(ring_round(1, 30, [0]), [0])
        self.assertEqual(ring_round(3, 1, [2, 0, 1]), [2, 0, 1])
        self.assertEqual(ring_round(2, 2, [0, 1, 1, 0]), [0, 1, 3, 2])
        self.assertEqual(ring_round(2, 2, [1, 0, 0, 1]), [3, 2, 0, 1])
        self.assertEqual(ring_round(2, 3, [0, 1, 0, 1, 1, 1, 0, 0]), [0, 1, 2, 5, 3, 7, 6, 4])
        self.assertEqual(ring_round(3, 2, [0, 1, 1, 2, 2, 1, 0, 2, 0]), [0, 1, 4, 5, 8, 7, 3, 2, 6])


class TestRounds(RingsCase):
    def test_rounds_found_and_walked(self):
        draw = Draw(61)
        for signs, length in ROOM:
            for circuit in drawn_rounds(draw, signs, length):
                self.check(signs, length, circuit)

    def test_all_rounds_of_some(self):
        for signs, length, count in ((2, 2, 1), (2, 3, 2), (2, 4, 16), (3, 2, 24), (5, 1, 24)):
            found = all_rounds(window_net(signs, length))
            self.assertEqual(len(found), count)
            for circuit in found:
                for begun in turned(circuit):
                    self.check(signs, length, begun)


class TestRows(RingsCase):
    def check_row(self, signs, length, row):
        """Whether this row is a ring, as the test reads it; if not, it is refused."""
        if not has_each_once(signs, length, row):
            self.check_no_ring(signs, length, row)
            return False
        circuit = ring_round(signs, length, row)
        self.assertEqual(circuit, round_by_looking(signs, length, row))
        self.assertTrue(takes_each_once(window_net(signs, length).roads, circuit))
        self.assertEqual(ring(signs, circuit), row)
        return True

    def test_all_rows_of_some(self):
        # How many there are: the rings that begin with the first window, turned round.
        for signs, length, count in (
            (1, 1, 1), (1, 7, 1), (2, 1, 2), (3, 1, 6), (4, 1, 24), (5, 1, 120), (2, 2, 4), (2, 3, 16), (3, 2, 216),
        ):
            rows = [list(row) for row in product(range(signs), repeat=signs ** length)]
            self.assertEqual(sum(self.check_row(signs, length, row) for row in rows), count)

    def test_all_rows_with_numbers_that_are_no_signs(self):
        for signs, length in ((1, 1), (2, 1), (3, 1), (2, 2)):
            for row in product(range(-2, signs + 2), repeat=signs ** length):
                if not set(row) <= set(range(signs)):
                    self.check_no_ring(signs, length, list(row))

    def test_rows_of_any_length(self):
        for signs, length in ((1, 1), (1, 2), (1, 9), (2, 1), (2, 2), (3, 1)):
            for count in range(7):
                for row in product(range(signs), repeat=count):
                    if count != signs ** length:
                        self.check_no_ring(signs, length, list(row))

    def test_rings_turned_round(self):
        draw = Draw(62)
        for signs, length in ROOM:
            circuit = drawn_circuit(draw, window_net(signs, length).roads)
            told = ring(signs, circuit)
            for row, begun in zip(turned(told), turned(circuit)):
                self.assertTrue(self.check_row(signs, length, row))
                self.assertEqual(ring_round(signs, length, row), begun)

    def test_one_sign_put_otherwise_or_two_exchanged(self):
        draw = Draw(63)
        for signs, length in ROOM:
            told = ring(signs, drawn_circuit(draw, window_net(signs, length).roads))
            for spot in range(len(told)):
                for sign in range(signs):
                    self.check_row(signs, length, told[:spot] + [sign] + told[spot + 1:])
                row = list(told)
                row[spot - 1], row[spot] = row[spot], row[spot - 1]
                self.check_row(signs, length, row)
            self.assertEqual(self.check_row(signs, length, told[::-1]), True)


class TestNoWindows(RingsCase):
    def test_none_or_too_many(self):
        for signs, length in NO_ROOM:
            for row in ([], [0], [0, 1], [0, 1, 1, 0], list(range(25)), [0] * 32, [-1], [10 ** 5000]):
                handed = list(row)
                refused(self, "NoWindows", ring_round, signs, length, handed)
                self.assertEqual(handed, row)

    def test_what_would_be_a_ring(self):
        refused(self, "NoWindows", ring_round, 25, 1, list(range(25)))
        refused(self, "NoWindows", ring_round, 5, 2, [
            0, 0, 1, 0, 2, 0, 3, 0, 4, 1, 1, 2, 1, 3, 1, 4, 2, 2, 3, 2, 4, 3, 3, 4, 4,
        ])
        refused(self, "NoWindows", ring_round, 2, 5, [
            0, 0, 0, 0, 0, 1, 0, 0, 0, 1, 1, 0, 0, 1, 0, 1, 0, 0, 1, 1, 1, 0, 1, 0, 1, 1, 0, 1, 1, 1, 1, 1,
        ])
        refused(self, "NoWindows", ring_round, 2, 0, [0])
        refused(self, "NoWindows", ring_round, 0, 1, [])


class TestNoRing(RingsCase):
    def test_too_few_or_too_many_signs(self):
        draw = Draw(64)
        for signs, length in ROOM:
            told = ring(signs, drawn_circuit(draw, window_net(signs, length).roads))
            self.check_no_ring(signs, length, [])
            self.check_no_ring(signs, length, told + told)
            for spot in range(len(told)):
                self.check_no_ring(signs, length, told[:spot] + told[spot + 1:])
                self.check_no_ring(signs, length, told[:spot] + [0] + told[spot:])
            self.check_no_ring(signs, length, told + [0])

    def test_a_number_that_is_no_sign(self):
        draw = Draw(65)
        for signs, length in ROOM:
            told = ring(signs, drawn_circuit(draw, window_net(signs, length).roads))
            for spot in range(len(told)):
                # Some of these would count as the sign that stands there, were they counted round.
                for wrong in (-1, -signs, told[spot] - signs, signs, told[spot] + signs, signs + 1) + FAR:
                    self.check_no_ring(signs, length, told[:spot] + [wrong] + told[spot + 1:])

    def test_a_window_twice(self):
        for signs, length in ROOM:
            if signs > 1:
                self.check_no_ring(signs, length, [0] * signs ** length)
                self.check_no_ring(signs, length, [signs - 1] * signs ** length)
        self.check_no_ring(2, 2, [0, 1, 0, 1])
        self.check_no_ring(2, 3, [0, 0, 0, 1, 1, 1, 1, 0])
        # Each sign as often as in a ring.
        self.check_no_ring(2, 4, [0, 1] * 8)
        self.check_no_ring(3, 2, [0, 1, 2] * 3)

    def test_a_window_twice_over_the_end_alone(self):
        # Read along it has no window twice, read round it has.
        self.check_no_ring(2, 2, [0, 0, 1, 0])
        self.check_no_ring(2, 2, [1, 0, 1, 1])


class TestToldIsTheAskersOwn(RingsCase):
    def test_told_again_after_a_change(self):
        for signs, length in ((1, 1), (1, 5), (3, 1), (2, 2), (2, 4), (4, 2)):
            circuit = find(window_net(signs, length))[1]
            handed = list(circuit)
            told = ring(signs, handed)
            row = list(told)
            back = ring_round(signs, length, row)
            told.clear()
            back.append(7)
            self.assertEqual(handed, circuit)
            self.assertEqual(ring_round(signs, length, row), circuit)
            self.assertEqual(ring(signs, handed), row)

    def test_no_two_lists_are_one(self):
        for signs, length in ((1, 1), (3, 1), (2, 3)):
            circuit = find(window_net(signs, length))[1]
            told = ring(signs, circuit)
            no_two_one(self, circuit, told, ring(signs, circuit), ring_round(signs, length, told),
                       ring_round(signs, length, told))

    def test_what_is_handed_in_is_not_kept(self):
        circuit, row = [0, 1, 3, 2], [0, 1, 1, 0]
        told, back = ring(2, circuit), ring_round(2, 2, row)
        circuit.reverse()
        row.clear()
        self.assertEqual((told, back), ([0, 1, 1, 0], [0, 1, 3, 2]))


if __name__ == "__main__":
    unittest.main()
