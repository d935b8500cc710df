"""Rounds of a net: looking at one, and finding one or why there is none."""

from everyroad.errors import NoRound
from everyroad.net import parts
from everyroad.walks import waiting_roads, walk_on, with_bends


def is_round(net, circuit):
    # Once this holds, each number is a road's: none is below nought or too great.
    if sorted(circuit) != list(range(len(net.roads))):
        return False
    for spot, road in enumerate(circuit):
        # Ahead of the first road stands the last one: a round closes.
        ahead = circuit[spot - 1]
        if net.roads[ahead][1] != net.roads[road][0]:
            return False
    return True


def need_round(net, circuit):
    if not is_round(net, circuit):
        raise NoRound("the list is no round of the net")


def odd_places(net):
    return [place for place in range(net.size) if len(net.outs(place)) != len(net.ins(place))]


# A round of a net that has roads, one part, and as many roads from each place
# as to it. Roads wait rising, so road 0 is taken first; and no bend is set in
# ahead of it, as the walk goes on till none waits where it began.
def walk_round(net):
    waiting = waiting_roads(net)
    return with_bends(net, walk_on(net, net.roads[0][0], waiting), waiting)


def find(net):
    odd = odd_places(net)
    if odd:
        return ("odd", odd[0])
    apart = parts(net)
    if len(apart) > 1:
        return ("apart", apart[0])
    if not net.roads:
        return ("round", [])
    return ("round", walk_round(net))
