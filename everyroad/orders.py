"""The orders in which rounds take the roads of each place, and walks by such orders."""

from everyroad.errors import NoOrders, NotEven, NotWhole
from everyroad.rounds import need_round, odd_places
from everyroad.walks import walk_on


def orders(net, circuit):
    need_round(net, circuit)
    rows = [[] for place in range(net.size)]
    for road in circuit:
        rows[net.roads[road][0]].append(road)
    return rows


def last_tree(net, circuit):
    lasts = [row[-1] if row else None for row in orders(net, circuit)]
    if circuit:
        begin = net.roads[circuit[0]][0]
        lasts[begin] = None
    return lasts


def need_orders(net, rows):
    # A list too few or too many differs here too, and so does a number that no road has.
    if [sorted(row) for row in rows] != [net.outs(place) for place in range(net.size)]:
        raise NoOrders("these are not the roads of each place, each once")


def need_even(net):
    if odd_places(net):
        raise NotEven("from a place not as many roads lead as come")


def by_orders(net, start, rows):
    # Where several refusals are due, the first one of these is.
    net.need_place(start)
    need_orders(net, rows)
    need_even(net)
    # The walk uses lists up, so it is handed copies.
    path = walk_on(net, start, [list(row) for row in rows])
    left = [road for road in range(len(net.roads)) if road not in path]
    if left:
        raise NotWhole(left)
    return path
