"""What several tests need: nets made and drawn, and the document's words looked at anew."""

from itertools import permutations, product

from everyroad import errors
from everyroad.net import Net

REFUSALS = (
    "NoPlace", "TooMany", "NoRound", "NoOrders", "NotEven",
    "NotWhole", "NoExchange", "NoWindows", "NoRing", "NoNote",
)
FAR = (100, -100, 10 ** 9, -10 ** 9, 10 ** 40, -10 ** 40, 10 ** 5000, -10 ** 5000)
# All counts of signs and lengths of windows that a net has room for; of one sign up to thirty.
ROOM = [(1, length) for length in range(1, 31)] + [(signs, 1) for signs in range(2, 25)]
ROOM += [(2, 2), (3, 2), (4, 2), (2, 3), (2, 4)]


def no_places(size):
    """Numbers that are no place of a net of this size."""
    return (-1, size, size + 1, -size, -size - 1) + FAR


def refused(case, name, call, *given):
    """The error, once it is seen to be this refusal and none of the others."""
    with case.assertRaises(errors.RoadError) as caught:
        call(*given)
    kinds = [one for one in REFUSALS if isinstance(caught.exception, getattr(errors, one))]
    case.assertEqual(kinds, [name])
    return caught.exception


def net_of(size, roads):
    net = Net(size)
    for start, goal in roads:
        net.lay(start, goal)
    return net


def state(net):
    """All that a net tells, as a copy."""
    places = range(net.size)
    return (net.size, list(net.roads), [net.outs(p) for p in places], [net.ins(p) for p in places])


def lists_in(value):
    """All lists within what was told or handed in, those of nets too."""
    if isinstance(value, Net):
        return lists_in(value.roads)
    if not isinstance(value, (list, tuple)):
        return []
    own = [value] if isinstance(value, list) else []
    return own + [row for part in value for row in lists_in(part)]


def no_two_one(case, *values):
    """No list within these is another one of them."""
    rows = lists_in(values)
    case.assertEqual(len({id(row) for row in rows}), len(rows))


def all_nets(size, most_roads):
    """All nets of so many places with at most so many roads, as lists of roads."""
    kinds = list(product(range(size), repeat=2))
    for count in range(most_roads + 1):
        for roads in product(kinds, repeat=count):
            yield list(roads)


class Draw:
    """Numbers by a fixed rule: the same at each run."""

    def __init__(self, seed):
        self.last = seed

    def below(self, bound):
        self.last = (self.last * 6364136223846793005 + 1442695040888963407) % 2 ** 64
        return (self.last >> 33) % bound

    def mixed(self, things):
        rest = list(things)
        return [rest.pop(self.below(len(rest))) for _ in range(len(rest))]


def drawn_roads(draw, size):
    """Roads of a net of this size, anyhow."""
    return [(draw.below(size), draw.below(size)) for _ in range(draw.below(25))]


def drawn_even_roads(draw, size):
    """Roads of closed walks, in a mixed order: as many lead from each place as come."""
    roads = []
    room = draw.below(25)
    while room > 0:
        stops = [draw.below(size) for _ in range(1 + draw.below(min(room, 6)))]
        roads += zip(stops, stops[1:] + stops[:1])
        room -= len(stops)
    return draw.mixed(roads)


def drawn_round(draw, size, count):
    """Roads of one closed walk, in a mixed order, and the round that it is."""
    stops = [draw.below(size) for _ in range(count)]
    circuit = draw.mixed(range(count))
    roads = [None] * count
    for spot, number in enumerate(circuit):
        roads[number] = (stops[spot], stops[(spot + 1) % count])
    return roads, circuit


def drawn_circuit(draw, roads):
    """A round that begins with road 0, of a net that has roads and a round: bends set into one another."""
    every = set(range(len(roads)))
    circuit = [0] + drawn_walk(draw, roads, every - {0}, roads[0][1])
    while len(circuit) < len(roads):
        rest = every - set(circuit)
        starts = {roads[road][0] for road in rest}
        spots = [k for k, road in enumerate(circuit, 1) if roads[road][1] in starts]
        spot = spots[draw.below(len(spots))]
        circuit[spot:spot] = drawn_walk(draw, roads, rest, roads[circuit[spot - 1]][1])
    return circuit


def drawn_walk(draw, roads, rest, place):
    """A walk along these roads, each once at most, till none leads on."""
    taken = []
    while True:
        free = sorted(road for road in rest if road not in taken and roads[road][0] == place)
        if not free:
            return taken
        taken.append(free[draw.below(len(free))])
        place = roads[taken[-1]][1]


def turned(circuit):
    """A round begun at each of its roads."""
    return [circuit[k:] + circuit[:k] for k in range(len(circuit))]


def spoiled(circuit):
    """Lists near to this round that are none: a road left out or twice, a number that no road has."""
    count = len(circuit)
    for spot in range(count):
        ahead, road, behind = circuit[:spot], circuit[spot], circuit[spot + 1:]
        yield ahead + behind
        yield ahead + [road, road] + behind
        for wrong in (-1, road - count, count, count + 1, 10 ** 5000, -10 ** 5000):
            yield ahead + [wrong] + behind
            yield ahead + [road, wrong] + behind
        if count > 1:
            yield ahead + [(road + 1) % count] + behind
    yield circuit + circuit + [0]


def rounds_by_trying(roads):
    """All rounds that begin with road 0, ascending: each row of the roads looked at."""
    rows = [[0] + list(rest) for rest in permutations(range(1, len(roads)))] if roads else [[]]
    return [row for row in rows if takes_each_once(roads, row)]


def outs_of(size, roads):
    """For each place the roads that lead from it, rising."""
    return [[k for k, road in enumerate(roads) if road[0] == place] for place in range(size)]


def odd_places(size, roads):
    starts = [start for start, _ in roads]
    goals = [goal for _, goal in roads]
    return [p for p in range(size) if starts.count(p) != goals.count(p)]


def parts_of(roads):
    """The parts, by walking the roads either way from each place that has one."""
    found = []
    for first in sorted({place for road in roads for place in road}):
        if any(first in part for part in found):
            continue
        reached = {first}
        grown = True
        while grown:
            more = {place for road in roads if reached & set(road) for place in road}
            grown = not more <= reached
            reached |= more
        found.append(sorted(reached))
    return found


def takes_each_once(roads, circuit):
    """Whether this is a round, said as the document says it."""
    if len(circuit) != len(roads) or set(circuit) != set(range(len(roads))):
        return False
    pairs = list(zip(circuit, circuit[1:] + circuit[:1]))
    return all(roads[one][1] == roads[after][0] for one, after in pairs)
