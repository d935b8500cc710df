import re
import unittest
from itertools import product

from everyroad.net import Net
from everyroad.notes import read, written

from helper import Draw, all_nets, drawn_roads, net_of, no_two_one, refused, state

# Each sign that a text can have: a tab, a line end, from the blank to `~` without one.
SIGNS = ["\t", "\n"] + [chr(code) for code in range(ord(" "), ord("~") + 1) if chr(code) != "%"]
FORM = re.compile(r"net ([1-8])((?:\n[0-7]>[0-7]){0,24})")
RING = [(k, (k + 1) % 8) for k in range(8)]


def text_of(size, roads):
    return "\n".join(["net " + str(size)] + [str(start) + ">" + str(goal) for start, goal in roads])


def told_by_form(text):
    """The size and the roads that a text tells; None if it tells no net."""
    found = FORM.fullmatch(text)
    if found is None:
        return None
    size = int(found[1])
    roads = [(int(row[0]), int(row[2])) for row in found[2].split("\n")[1:]]
    if any(place >= size for road in roads for place in road):
        return None
    return size, roads


def near(text):
    """All texts that come of this one by one sign left out, put otherwise or put in."""
    for spot in range(len(text) + 1):
        ahead, behind = text[:spot], text[spot:]
        if behind:
            yield ahead + behind[1:]
        for sign in SIGNS:
            yield ahead + sign + behind
            if behind:
                yield ahead + sign + behind[1:]


class NotesCase(unittest.TestCase):
    def check(self, size, roads):
        """Writes a net and reads it again."""
        net = net_of(size, roads)
        before = state(net)
        text = written(net)
        self.assertIs(type(text), str)
        self.assertEqual(text, text_of(size, roads))
        self.check_read(text, size, roads)
        self.assertEqual(state(net), before)

    def check_read(self, text, size, roads):
        net = read(text)
        self.assertIs(type(net), Net)
        self.assertEqual(state(net), state(net_of(size, roads)))
        self.assertTrue(all(type(road) is tuple for road in net.roads))
        self.assertEqual(written(net), text)

    def check_refused(self, *texts):
        for text in texts:
            with self.subTest(text=text):
                refused(self, "NoNote", read, text)


class TestWrittenAndRead(NotesCase):
    def test_by_hand(self):
        self.assertEqual(written(Net(1)), "net 1")
        self.assertEqual(written(net_of(2, [(0, 1)])), "net 2\n0>1")
        self.assertEqual(written(net_of(8, [(7, 0), (7, 7), (7, 0)])), "net 8\n7>0\n7>7\n7>0")
        net = read("net 3\n2>1\n0>0")
        self.assertEqual((net.size, net.roads), (3, [(2, 1), (0, 0)]))
        self.assertEqual((net.outs(2), net.ins(1), net.outs(1)), ([0], [0], []))

    def test_nets_without_roads(self):
        for size in range(1, 9):
            self.check(size, [])

    def test_each_road_of_each_size(self):
        for size in range(1, 9):
            for road in product(range(size), repeat=2):
                self.check(size, [road])

    def test_24_roads(self):
        self.check(1, [(0, 0)] * 24)
        self.check(2, [(0, 1), (1, 0)] * 12)
        self.check(8, RING * 3)
        self.check(8, [(7, 7)] * 24)
        for size in range(1, 9):
            self.check(size, [(k % size, k * 5 % size) for k in range(24)])

    def test_all_small_nets(self):
        for size, most in ((1, 6), (2, 4), (3, 3)):
            for roads in all_nets(size, most):
                self.check(size, roads)

    def test_drawn_nets(self):
        draw = Draw(71)
        for turn in range(300):
            size = 1 + turn % 8
            self.check(size, drawn_roads(draw, size))


class TestNoNote(NotesCase):
    def test_no_net(self):
        self.check_refused(
            "", " ", "\n", "\t", "n", "ne", "net", "net ", "net\n", "net \n", "net1", "net\t1", "net\n1", "net-1",
            "Net 1", "NET 1", "neT 1", "nett 1", "et 1", "ten 1", "1", "1 net", "road 1", "net 1 net 1", "net a", "net n",
        )

    def test_sizes(self):
        self.check_refused(
            "net 0", "net 9", "net 10", "net 11", "net 18", "net 81", "net 80", "net 01", "net 001", "net 08", "net 00",
            "net +1", "net -1", "net -0", "net 1.0", "net 1_", "net _1", "net 0x1", "net 1e0", "net (1)", "net '1'",
            "net 1000000", "net 1" + "0" * 5000, "net " + "0" * 5000 + "1", "net .", "net >",
        )

    def test_blanks_tabs_and_line_ends(self):
        self.check_refused("net  1", "net 1 ", " net 1", "net 1\t", "\tnet 1", "net \t1", "net 1\n", "\nnet 1", "net 1\n\n")
        for sign in " \t\n":
            self.check_refused(
                sign + "net 2\n0>1", "net 2" + sign + "\n0>1", "net 2\n" + sign + "0>1", "net 2\n0" + sign + ">1",
                "net 2\n0>" + sign + "1", "net 2\n0>1" + sign, "net" + sign + " 2\n0>1", "net " + sign + "2\n0>1",
            )

    def test_a_place_that_the_net_has_not(self):
        for size in range(1, 9):
            for wrong in range(size, 10):
                self.check_refused(f"net {size}\n0>{wrong}", f"net {size}\n{wrong}>0", f"net {size}\n{wrong}>{wrong}")
        self.check_refused("net 2\n0>1\n1>2", "net 2\n2>0\n0>1", "net 8\n7>8", "net 8\n8>7")

    def test_places_told_otherwise(self):
        self.check_refused(
            "net 8\n10>1", "net 8\n1>10", "net 8\n00>1", "net 8\n0>01", "net 8\n01>1", "net 8\n0>00", "net 8\n+1>1",
            "net 8\n1>+1", "net 8\n-1>1", "net 8\n1>-1", "net 8\n-0>0", "net 8\n0>-0", "net 8\na>1", "net 8\n1>b",
            "net 8\n.>1", "net 8\n0>1.", "net 8\n0>" + "0" * 5000 + "1", "net 8\n0>1" + "0" * 5000,
        )

    def test_roads_told_otherwise(self):
        self.check_refused(
            "net 2\n0<1", "net 2\n0>>1", "net 2\n0->1", "net 2\n0=>1", "net 2\n0-1", "net 2\n0 1", "net 2\n01", "net 2\n0",
            "net 2\n0>", "net 2\n>1", "net 2\n>", "net 2\n>>", "net 2\n0,1", "net 2\n0>1>0", "net 2\n0>1>", "net 2\n>0>1",
            "net 2\n0>1\n0", "net 2\n0>1\n>", "net 2\nnet 2", "net 2\nnet 2\n0>1", "net 2\n0>\n1", "net 2\n0\n>1",
        )

    def test_empty_lines(self):
        self.check_refused(
            "net 2\n", "net 2\n0>1\n", "net 2\n\n0>1", "net 2\n0>1\n\n1>0", "\nnet 2\n0>1", "net 2\n0>1\n1>0\n",
            "net 2\n0>1\n\n", "\n\nnet 2", "net 2\n\n",
        )
        for count in range(25):
            self.check_refused(text_of(2, [(0, 1)] * count) + "\n", "\n" + text_of(2, [(0, 1)] * count))

    def test_roads_in_one_line(self):
        self.check_refused(
            "net 2 0>1", "net 20>1", "net 2\t0>1", "net 2,0>1", "net 2\n0>1 1>0", "net 2\n0>11>0", "net 2\n0>1,1>0",
            "net 2\n0>1;1>0", "net 2\n0>1\t1>0", "0>1", "0>1\nnet 2", "0>1\n1>0",
        )

    def test_other_line_ends(self):
        self.check_refused("net 2\\n0>1", "net 2/0>1", "net 2|0>1", "net 2n0>1")

    def test_too_many_roads(self):
        self.check_refused(text_of(1, [(0, 0)] * 25), text_of(8, RING * 3 + [(0, 0)]), text_of(8, [(7, 7)] * 26))
        self.check_refused(text_of(2, [(0, 1)] * 100), text_of(2, [(0, 1)] * 10000))
        # Too many, and the last one is no road of the net either.
        self.check_refused(text_of(1, [(0, 0)] * 24 + [(0, 1)]), text_of(1, [(0, 0)] * 24) + "\n")

    def test_all_near_to_a_written_one(self):
        seen = {True: 0, False: 0}
        for size, roads in (
            (1, []), (8, []), (5, []), (2, [(0, 1)]), (8, [(7, 7)]), (1, [(0, 0), (0, 0)]), (4, [(3, 0), (1, 2), (2, 2)]),
            (3, [(0, 1)] * 23), (8, RING * 3), (7, [(6, k % 7) for k in range(24)]),
        ):
            for text in near(text_of(size, roads)):
                told = told_by_form(text)
                if told is None:
                    refused(self, "NoNote", read, text)
                else:
                    self.check_read(text, *told)
                seen[told is not None] += 1
        self.assertGreater(seen[True], 500)
        self.assertGreater(seen[False], 50000)

    def test_all_short_texts_of_some_signs(self):
        for length in range(5):
            for signs in product("net 12>\n", repeat=length):
                self.check_refused("".join(signs))
        for length in range(5):
            for signs in product("0129>\n ", repeat=length):
                text = "net 2" + "".join(signs)
                told = told_by_form(text)
                if told is None:
                    refused(self, "NoNote", read, text)
                else:
                    self.check_read(text, *told)


class TestToldIsTheAskersOwn(NotesCase):
    def test_laying_on_the_one_leaves_the_other(self):
        net = net_of(3, [(0, 1), (2, 2)])
        other = read(written(net))
        self.assertEqual(other.lay(1, 0), 2)
        self.assertEqual(net.roads, [(0, 1), (2, 2)])
        self.assertEqual(net.lay(2, 0), 2)
        self.assertEqual(other.roads, [(0, 1), (2, 2), (1, 0)])
        self.assertEqual(written(net), "net 3\n0>1\n2>2\n2>0")
        self.assertEqual(written(other), "net 3\n0>1\n2>2\n1>0")

    def test_read_anew_after_a_change(self):
        for size, roads in ((1, []), (3, [(0, 1), (2, 2)]), (8, RING * 2)):
            text = text_of(size, roads)
            net = read(text)
            net.lay(0, 0)
            net.roads.pop(0)
            net.size = 8
            self.check_read(text, size, roads)

    def test_a_net_read_is_full_with_24_roads(self):
        net = read(text_of(8, RING * 3))
        refused(self, "TooMany", net.lay, 0, 0)
        refused(self, "NoPlace", net.lay, 8, 0)
        self.assertEqual(written(net), text_of(8, RING * 3))

    def test_no_two_lists_are_one(self):
        for size, roads in ((1, []), (3, [(0, 1), (2, 2)])):
            net = net_of(size, roads)
            no_two_one(self, net, read(written(net)), read(written(net)))


if __name__ == "__main__":
    unittest.main()
