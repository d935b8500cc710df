"""Nets of windows, and the rings that have each window just once."""

from everyroad.errors import NoRing, NoWindows
from everyroad.net import MOST_ROADS, Net


# How many windows there are. They are the roads of their net; the places need no
# look of their own: of two signs, 24 roads have room for windows of length 4, with
# 8 places; of more signs the places are fewer yet, and of one sign there is one.
def window_count(signs, length):
    if signs < 1 or length < 1:
        raise NoWindows("there are no windows of so many signs or so long")
    count = 1
    for turn in range(length):
        count = count * signs
        # Looked at each time, so that no great number grows.
        if count > MOST_ROADS:
            raise NoWindows("there are more windows than a net has roads")
    return count


def window_net(signs, length):
    count = window_count(signs, length)
    places = count // signs
    net = Net(places)
    for window in range(count):
        net.lay(window // signs, window % places)
    return net


def ring(signs, circuit):
    return [road % signs for road in circuit]


# Read round: ahead of the first sign stands the last one. Of one sign alone there
# are windows longer than the ring.
def window_ending(signs, length, told, spot):
    window = 0
    for at in range(spot - length + 1, spot + 1):
        window = window * signs + told[at % len(told)]
    return window


def need_signs(signs, count, told):
    if len(told) != count:
        raise NoRing("a ring has as many signs as there are windows")
    if [sign for sign in told if not 0 <= sign < signs]:
        raise NoRing("a number of the row is no sign")


def ring_round(signs, length, told):
    # Where both refusals are due, NoWindows is.
    count = window_count(signs, length)
    need_signs(signs, count, told)
    circuit = [window_ending(signs, length, told, spot) for spot in range(count)]
    if len(set(circuit)) != count:
        raise NoRing("the row has a window twice")
    return circuit
