"""Clocks: trees of wires that are equally long from the root to all ends.

Let a node's reach be half the greatest way between two ends below it. No
node can be nearer to its ends than that along the wires. And all can be as
near as that at once: turned by an eighth, points at most so far from a point
are a box with level and upright sides, and boxes of which each two meet all
have a common point. All wires together are the sum of the reaches of all
nodes, the root's taken twice, so this is the least.
"""

from chipfloor.checks import is_between, is_tuple_of, wrong_index
from chipfloor.errors import BadPins, BadTopology
from chipfloor.points import MOST_POINTS, distance, is_point
from chipfloor.ratios import ratio

MOST_SEARCHED = 5


def check_ends(ends):
    """Raise BadPins for a value that is no ends."""
    if not is_tuple_of(ends, 1, MOST_POINTS):
        raise BadPins(None)
    index = wrong_index(ends, is_point)
    if index is not None:
        raise BadPins(index)


def check_clock(ends, topology):
    """Raise BadPins or BadTopology for values that are no ends and a topology of them."""
    check_ends(ends)
    found = []
    # Of so many ends, none is more pairs deep than there are other ends.
    if not is_topology(topology, len(ends), len(ends) - 1, found) or len(found) < len(ends):
        raise BadTopology("no topology in which each end stands once")


def is_topology(value, many, deep, found):
    """Whether any value is a topology, at most so many pairs deep, of ends not found yet, which it finds."""
    if is_between(value, 0, many - 1) and value not in found:
        found.append(value)
        return True
    if deep == 0 or not is_tuple_of(value, 2, 2):
        return False
    return all([is_topology(part, many, deep - 1, found) for part in value])


def ends_below(topology):
    """The list of the indexes of the ends of a topology."""
    if isinstance(topology, int):
        return [topology]
    return ends_below(topology[0]) + ends_below(topology[1])


def twice_reach(ends, topology):
    """The greatest way between two ends of a topology: twice the way along the wires from its node to each."""
    below = [ends[index] for index in ends_below(topology)]
    return max([distance(one, other) for one in below for other in below])


def twice_sum(ends, topology):
    """Twice the sum of the reaches of all nodes of a topology."""
    if isinstance(topology, int):
        return 0
    return twice_reach(ends, topology) + twice_sum(ends, topology[0]) + twice_sum(ends, topology[1])


def twice_wire(ends, topology):
    """Twice the least sum of all wires."""
    return twice_reach(ends, topology) + twice_sum(ends, topology)


def least_wire(ends, topology):
    """The least sum of all wires, and how long they are from the root to each end then."""
    check_clock(ends, topology)
    return (ratio(twice_wire(ends, topology), 2), ratio(twice_reach(ends, topology), 2))


# Turned by an eighth, a point (across, up) is (across + up, across - up). As
# reaches can be halves, all turned places and lengths are taken twice.


def turned(point):
    """Twice the turned places of a point."""
    across, up = point
    return (2 * (across + up), 2 * (across - up))


def placed(ends, topology):
    """The list of (topology, across, up, length) of all nodes of a clock with the least wire."""
    check_clock(ends, topology)
    root = spot_near([], ends, topology)
    return nodes_of(ends, topology, root, 0)


def nodes_of(ends, topology, spot, twice_length):
    """The nodes of a topology whose root is at a turned spot, on a wire of the length."""
    across, up = ratio(spot[0] + spot[1], 4), ratio(spot[0] - spot[1], 4)
    nodes = [(topology, across, up, ratio(twice_length, 2))]
    if isinstance(topology, int):
        return nodes
    for part in topology:
        longer = twice_reach(ends, topology) - twice_reach(ends, part)
        nodes = nodes + nodes_of(ends, part, spot_near([(spot, longer)], ends, part), longer)
    return nodes


def spot_near(hubs, ends, topology):
    """A turned spot within the topology's reach of all its ends, and within those of hubs (spot, twice the reach)."""
    own = twice_reach(ends, topology)
    hubs = hubs + [(turned(ends[index]), own) for index in ends_below(topology)]
    return (max([spot[0] - far for spot, far in hubs]), max([spot[1] - far for spot, far in hubs]))


def best_topology(ends):
    """The least wire over all topologies, and a topology with it."""
    check_ends(ends)
    if len(ends) > MOST_SEARCHED:
        raise BadPins(None)
    topologies = topologies_of(list(range(len(ends))))
    best = min(topologies, key=lambda topology: twice_wire(ends, topology))
    return (ratio(twice_wire(ends, best), 2), best)


def topologies_of(indexes):
    """All topologies of ends, but for the order of the two parts of pairs."""
    if len(indexes) == 1:
        return [indexes[0]]
    found = []
    for one, other in parted(indexes):
        found.extend([(first, second) for first in topologies_of(one) for second in topologies_of(other)])
    return found


def parted(indexes):
    """All ways to part a list in two that are not empty, the first item being in the first one."""
    parts = [([indexes[0]], [])]
    for index in indexes[1:]:
        parts = [pair for one, other in parts for pair in ((one + [index], other), (one, other + [index]))]
    return [(one, other) for one, other in parts if other]
