"""What several tests need: nets made and drawn, and the document's words looked at anew."""

from itertools import product

from everyroad.net import Net


def net_of(size, roads):
    net = Net(size)
    for start, goal in roads:
        net.lay(start, goal)
    return net


def state(net):
    """All that a net tells, as a copy."""
    places = range(net.size)
    return (net.size, list(net.roads), [net.outs(p) for p in places], [net.ins(p) for p in places])


def all_nets(size, most_roads):
    """All nets of so many places with at most so many roads, as lists of roads."""
    kinds = list(product(range(size), repeat=2))
    for count in range(most_roads + 1):
        for roads in product(kinds, repeat=count):
            yield list(roads)


class Draw:
    """Numbers by a fixed rule: the same at each run."""

    def __init__(self, seed):
        self.last = seed

    def below(self, bound):
        self.last = (self.last * 6364136223846793005 + 1442695040888963407) % 2 ** 64
        return (self.last >> 33) % bound

    def mixed(self, things):
        rest = list(things)
        return [rest.pop(self.below(len(rest))) for _ in range(len(rest))]


def drawn_roads(draw, size):
    """Roads of a net of this size, anyhow."""
    return [(draw.below(size), draw.below(size)) for _ in range(draw.below(25))]


def drawn_even_roads(draw, size):
    """Roads of closed walks, in a mixed order: as many lead from each place as come."""
    roads = []
    room = draw.below(25)
    while room > 0:
        stops = [draw.below(size) for _ in range(1 + draw.below(min(room, 6)))]
        roads += zip(stops, stops[1:] + stops[:1])
        room -= len(stops)
    return draw.mixed(roads)


def odd_places(size, roads):
    starts = [start for start, _ in roads]
    goals = [goal for _, goal in roads]
    return [p for p in range(size) if starts.count(p) != goals.count(p)]


def parts_of(roads):
    """The parts, by walking the roads either way from each place that has one."""
    found = []
    for first in sorted({place for road in roads for place in road}):
        if any(first in part for part in found):
            continue
        reached = {first}
        grown = True
        while grown:
            more = {place for road in roads if reached & set(road) for place in road}
            grown = not more <= reached
            reached |= more
        found.append(sorted(reached))
    return found


def takes_each_once(roads, circuit):
    """Whether this is a round, said as the document says it."""
    if len(circuit) != len(roads) or set(circuit) != set(range(len(roads))):
        return False
    pairs = list(zip(circuit, circuit[1:] + circuit[:1]))
    return all(roads[one][1] == roads[after][0] for one, after in pairs)
