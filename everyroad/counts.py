"""How many trees lead to a place, how many rounds there are, and all of them."""

from everyroad.rounds import find


# What is left of a row once the first one of its numbers is cleared by the row at
# the top. The division leaves nothing over, as `last` headed the top row one step
# ahead (Bareiss), so that all stays whole.
def cleared(row, top, last):
    return [(top[0] * row[k] - row[0] * top[k]) // last for k in range(1, len(row))]


# The determinant of rows as tree_row tells them. What heads the top row is itself
# a determinant: it counts the choices by which one comes out of the places taken
# up so far. Where it is nought, there is no way out from some of them, so no tree
# either, and no row need be drawn ahead of another.
def determinant(matrix):
    rows = list(matrix)
    last = 1
    while rows:
        top = rows.pop(0)
        if top[0] == 0:
            return 0
        rows = [cleared(row, top, last) for row in rows]
        last = top[0]
    return last


# The row of the determinant for one of the others. A road that leads back to
# where it begins, or to a place that no road leads from and that is not the
# place asked for, is in no tree, so it isn't counted.
def tree_row(net, place, others, one):
    goals = [net.roads[road][1] for road in net.outs(one)]
    useful = [goal for goal in goals if goal != one and (goal == place or goal in others)]
    return [len(useful) if other == one else -useful.count(other) for other in others]


def trees(net, place):
    net.need_place(place)
    others = [other for other in range(net.size) if other != place and net.outs(other)]
    return determinant([tree_row(net, place, others, one) for one in others])


def has_round(net):
    return find(net)[0] == "round"


def round_count(net):
    if not has_round(net):
        return 0
    if not net.roads:
        return 1
    count = trees(net, net.roads[0][0])
    for place in range(net.size):
        for factor in range(1, len(net.outs(place))):
            count = count * factor
    return count


# Each walk by each road that can come next and is not yet taken. Walks that
# ascend stay so, as the roads from a place are told rising.
def longer(net, walks):
    found = []
    for walk in walks:
        place = net.roads[walk[-1]][1]
        found.extend([walk + [road] for road in net.outs(place) if road not in walk])
    return found


def all_rounds(net):
    if not has_round(net):
        return []
    if not net.roads:
        return [[]]
    walks = [[0]]
    # A walk that takes all roads closes by itself: as many lead from each place as come.
    while len(walks[0]) < len(net.roads):
        walks = longer(net, walks)
    return walks
