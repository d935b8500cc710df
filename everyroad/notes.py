"""Nets written as texts, and texts read to nets."""

from everyroad.errors import NoNote
from everyroad.net import MOST_PLACES, MOST_ROADS, Net


def size_note(size):
    return f"net {size}"


def road_note(start, goal):
    return f"{start}>{goal}"


def written(net):
    return "\n".join([size_note(net.size)] + [road_note(road[0], road[1]) for road in net.roads])


# Reading looks rows up among those that writing makes, so that it takes no others.
def sizes_by_note():
    sizes = {}
    for size in range(1, MOST_PLACES + 1):
        sizes[size_note(size)] = size
    return sizes


def roads_by_note(size):
    roads = {}
    for start in range(size):
        for goal in range(size):
            roads[road_note(start, goal)] = (start, goal)
    return roads


def read_size(row):
    sizes = sizes_by_note()
    if row not in sizes:
        raise NoNote("the first row tells no net")
    return sizes[row]


def read_road(roads, row):
    if row not in roads:
        raise NoNote("a row tells no road of the net")
    return roads[row]


def read(text):
    rows = text.split("\n")
    net = Net(read_size(rows[0]))
    # Looked at here, as a note with too many roads is no note, whatever laying says.
    if len(rows) - 1 > MOST_ROADS:
        raise NoNote("a net has at most 24 roads")
    roads = roads_by_note(net.size)
    for row in rows[1:]:
        road = read_road(roads, row)
        net.lay(road[0], road[1])
    return net
