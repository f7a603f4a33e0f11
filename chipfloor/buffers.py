"""Buffers: trees of wires with loads, a driver at the root, and the delays from there.

Delays are told twice as long as they are, as a wire's own capacitance counts
half.
"""

from itertools import combinations

from chipfloor.checks import is_ascending, is_between, is_tuple_of
from chipfloor.errors import BadBuffer, BadWires

MOST_NODES = 8
GREATEST = 1000


def check_wires(wires):
    """Raise BadWires for a value that is no wires."""
    if not is_tuple_of(wires, 1, MOST_NODES):
        raise BadWires(None)
    for index, wire in enumerate(wires):
        # The first one is node 1, so its index is the greatest parent that it may have.
        if not is_tuple_of(wire, 5, 5) or not is_between(wire[0], 0, index) or not are_amounts(wire[1:]):
            raise BadWires(index)


def are_amounts(values):
    """Whether all values are integers that may be resistances, capacitances, loads, limits or delays."""
    return all([is_between(value, 0, GREATEST) for value in values])


def check_driver(driver):
    """Raise BadBuffer for a value that is no driver."""
    if not is_between(driver, 0, GREATEST):
        raise BadBuffer("no resistance of a driver")


def check_buffer(buffer):
    """Raise BadBuffer for a value that is no buffer."""
    if not is_tuple_of(buffer, 3, 3) or not are_amounts(buffer):
        raise BadBuffer("no load, resistance and delay of a buffer")


def check_spots(wires, spots):
    """Raise BadWires for a value that is no ascending tuple of nodes."""
    many = len(wires)
    if not is_tuple_of(spots, 0, many) or not all([is_between(node, 1, many) for node in spots]):
        raise BadWires(None)
    if not is_ascending(spots):
        raise BadWires(None)


def hanging_at(wires, buffer, spots):
    """The list of what hangs at each node, the root first."""
    hanging = [0] + [load for _, _, _, load, _ in wires]
    # Each node is behind its parent, so from the back all below a node is known.
    for node in range(len(wires), 0, -1):
        parent, _, capacitance, _, _ = wires[node - 1]
        hanging[parent] += capacitance + load_of(node, hanging, buffer, spots)
    return hanging


def load_of(node, hanging, buffer, spots):
    """What the wire to a node sees behind it."""
    if node in spots:
        return buffer[0]
    return hanging[node]


def all_delays(wires, driver, buffer, spots):
    """The list of twice the delay to each node, the root first, its buffer's delay counted."""
    hanging = hanging_at(wires, buffer, spots)
    delays = [2 * driver * hanging[0]]
    for node in range(1, len(wires) + 1):
        parent, resistance, capacitance, _, _ = wires[node - 1]
        delay = delays[parent] + resistance * (capacitance + 2 * load_of(node, hanging, buffer, spots))
        if node in spots:
            delay += 2 * (buffer[2] + buffer[1] * hanging[node])
        delays.append(delay)
    return delays


def slack_of(wires, driver, buffer, spots):
    """Twice the least limit less delay of all ends, with buffers at spots."""
    check_wires(wires)
    check_driver(driver)
    check_buffer(buffer)
    check_spots(wires, spots)
    return least_slack(wires, driver, buffer, spots)


def least_slack(wires, driver, buffer, spots):
    """The same for what is known to be right."""
    delays = all_delays(wires, driver, buffer, spots)
    parents = [wire[0] for wire in wires]
    return min([2 * wires[node - 1][4] - delays[node] for node in range(1, len(delays)) if node not in parents])


def delay_to(wires, driver, node):
    """Twice the delay to a node without buffers."""
    check_wires(wires)
    check_driver(driver)
    if not is_between(node, 1, len(wires)):
        raise BadWires(None)
    return all_delays(wires, driver, (0, 0, 0), ())[node]


def best_buffers(wires, driver, buffer):
    """The greatest slack over all spots, and spots with it."""
    check_wires(wires)
    check_driver(driver)
    check_buffer(buffer)
    end = len(wires) + 1
    choices = [spots for many in range(end) for spots in combinations(range(1, end), many)]
    return max([(least_slack(wires, driver, buffer, spots), spots) for spots in choices])
