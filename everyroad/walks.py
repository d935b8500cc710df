"""Walks along the roads of a net that are not yet taken."""


# For each place the roads that lead from it, rising: those that wait to be taken.
def waiting_roads(net):
    return [net.outs(place) for place in range(net.size)]


# The walk from a place by the next road that waits there each time, till none
# waits where one stands. It takes its roads out of the lists, so that a walk
# that comes later takes none of them again.
def walk_on(net, start, waiting):
    place = start
    path = []
    while waiting[place]:
        road = waiting[place].pop(0)
        path.append(road)
        place = net.roads[road][1]
    return path


# The walk with a bend set in wherever roads wait at a place that it goes through,
# and into the bends further ones. As many of the roads that wait must lead from
# each place as come, so that each bend ends where it begins, and none may wait
# where the walk ends, as behind its last road none is set in.
def with_bends(net, path, waiting):
    whole = path
    spot = 0
    while spot < len(whole):
        begin = net.roads[whole[spot]][0]
        whole = whole[:spot] + walk_on(net, begin, waiting) + whole[spot:]
        spot = spot + 1
    return whole
