"""Exchanges of two stretches of a round, and chains of them from round to round."""

from everyroad.errors import NoExchange, NoRound
from everyroad.rounds import is_round, need_round


def need_bounds(circuit, bounds):
    if not 0 <= bounds[0] < bounds[1] <= bounds[2] < bounds[3] <= len(circuit):
        raise NoExchange("these are not the bounds of two stretches of the round")


def with_stretches_exchanged(circuit, bounds):
    first = circuit[bounds[0]:bounds[1]]
    between = circuit[bounds[1]:bounds[2]]
    second = circuit[bounds[2]:bounds[3]]
    return circuit[:bounds[0]] + second + between + first + circuit[bounds[3]:]


def exchanged(net, circuit, bounds):
    need_round(net, circuit)
    need_bounds(circuit, bounds)
    changed = with_stretches_exchanged(circuit, bounds)
    if not is_round(net, changed):
        raise NoExchange("what comes of the exchange is no round")
    return changed


def need_round_from_0(net, circuit):
    need_round(net, circuit)
    if circuit[:1] not in ([], [0]):
        raise NoRound("the round begins with another road than 0")


# The place where each road of a round begins, and where the last one ends.
def stops(net, circuit):
    return [net.roads[road][0] for road in circuit + circuit[:1]]


# Bounds of an exchange that brings the first road in which the two rounds differ
# to its spot in the goal, and leaves all ahead of it. The one stretch begins at
# the spot and ends at some stop ahead of the wanted road, the other one begins
# with the wanted road; both must end at one place. There is such a place: else no
# road that follows the wanted one would lead back to those that stand between
# the spot and it, and the goal, which takes the wanted road first, could not take
# them all.
def bounds_towards(net, circuit, goal):
    spot = [k for k in range(len(goal)) if circuit[k] != goal[k]][0]
    wanted = circuit.index(goal[spot])
    places = stops(net, circuit)
    within = places[spot + 1:wanted + 1]
    end = [k for k in range(wanted + 1, len(places)) if places[k] in within][0]
    return (spot, spot + 1 + within.index(places[end]), wanted, end)


def chain(net, one, other):
    need_round_from_0(net, one)
    need_round_from_0(net, other)
    told = [list(one)]
    # Each step settles one road more, and the last road settles itself: so the
    # chain has no more rounds than the net has roads.
    while told[-1] != other:
        told.append(exchanged(net, told[-1], bounds_towards(net, told[-1], other)))
    return told
