"""Rides by which each road of a net is taken just once, as few as can be."""

from everyroad.net import parts
from everyroad.walks import waiting_roads, walk_on, with_bends


# How many roads more lead from a place than come, if more do.
def surplus(net, place):
    return max(0, len(net.outs(place)) - len(net.ins(place)))


# A part without surplus has a round: one ride takes it.
def part_need(net, part):
    return max(1, sum([surplus(net, place) for place in part]))


def ride_need(net):
    return sum([part_need(net, part) for part in parts(net)])


# A walk from each place as often as its surplus says. Each one evens out a road
# of surplus where it begins and one that is missing where it ends: of the roads
# that wait behind them all, as many lead from each place as come.
def walks_of_surplus(net, waiting):
    walks = []
    for place in range(net.size):
        for turn in range(surplus(net, place)):
            walks.append(walk_on(net, place, waiting))
    return walks


def rides(net):
    waiting = waiting_roads(net)
    # No bend is set in till all of these are walked: ahead of that it might not close.
    walks = walks_of_surplus(net, waiting)
    told = [with_bends(net, walk, waiting) for walk in walks]
    # What waits now lies in parts that none of these rides goes through: where one
    # goes through, the bends have taken all. Each of these parts has a round.
    for place in range(net.size):
        if waiting[place]:
            told.append(with_bends(net, walk_on(net, place, waiting), waiting))
    return told
