"""Nets of places and one-way roads, and the parts that a net falls into."""

from everyroad.errors import NoPlace, TooMany

MOST_PLACES = 8
MOST_ROADS = 24


class Net:
    def __init__(self, size):
        if not 1 <= size <= MOST_PLACES:
            raise TooMany("a net has 1 to 8 places")
        self.size = size
        self.roads = []

    def need_place(self, place):
        # The number stays out of the words: a very long one can't be shown.
        if not 0 <= place < self.size:
            raise NoPlace("the net has no place of this number")

    def lay(self, start, goal):
        # The places are looked at first: where both refusals are due, NoPlace is.
        self.need_place(start)
        self.need_place(goal)
        if len(self.roads) >= MOST_ROADS:
            raise TooMany("a net has at most 24 roads")
        self.roads.append((start, goal))
        return len(self.roads) - 1

    def outs(self, place):
        self.need_place(place)
        return [number for number, road in enumerate(self.roads) if road[0] == place]

    def ins(self, place):
        self.need_place(place)
        return [number for number, road in enumerate(self.roads) if road[1] == place]


# For each place the least place that roads join it to, taken either way.
def least_joined(net):
    least = list(range(net.size))
    for start, goal in net.roads:
        low = min(least[start], least[goal])
        high = max(least[start], least[goal])
        least = [low if mark == high else mark for mark in least]
    return least


def parts(net):
    least = least_joined(net)
    found = {}
    # Places are walked rising, so parts come by their least places by themselves.
    for place in range(net.size):
        if net.outs(place) or net.ins(place):
            found.setdefault(least[place], []).append(place)
    return list(found.values())
