"""Rounds of a net: looking at one, and finding one or why there is none."""

from everyroad.errors import NoRound
from everyroad.net import parts


def is_round(net, circuit):
    # Once this holds, each number is a road's: none is below nought or too great.
    if sorted(circuit) != list(range(len(net.roads))):
        return False
    for spot, road in enumerate(circuit):
        # Ahead of the first road stands the last one: a round closes.
        ahead = circuit[spot - 1]
        if net.roads[ahead][1] != net.roads[road][0]:
            return False
    return True


def need_round(net, circuit):
    if not is_round(net, circuit):
        raise NoRound("the list is no round of the net")


def odd_places(net):
    return [place for place in range(net.size) if len(net.outs(place)) != len(net.ins(place))]


# A round of a net that has roads, one part, and as many roads from each place
# as to it. A road is set down only when none is left to take behind it, so
# that detours come to lie within the round. The lists of roads rise, so road 0
# is taken first, and what is taken first is set down last.
def walk_round(net):
    waiting = [net.outs(place) for place in range(net.size)]
    place = net.roads[0][0]
    path = []
    backward = []
    while path or waiting[place]:
        if waiting[place]:
            road = waiting[place].pop(0)
            path.append(road)
            place = net.roads[road][1]
        else:
            road = path.pop()
            backward.append(road)
            place = net.roads[road][0]
    return list(reversed(backward))


def find(net):
    odd = odd_places(net)
    if odd:
        return ("odd", odd[0])
    apart = parts(net)
    if len(apart) > 1:
        return ("apart", apart[0])
    if not net.roads:
        return ("round", [])
    return ("round", walk_round(net))
