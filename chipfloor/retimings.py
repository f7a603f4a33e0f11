"""Circuits: gates with delays, wires with registers between them, and lags that move registers.

A wire is (from, to, registers). Wires without a register make the gates at
their ends work one behind the other.
"""

from chipfloor.checks import check_number, is_between, is_tuple_of, wrong_index
from chipfloor.errors import BadCircuit, BadLags
from chipfloor.ratios import ratio

MOST_GATES = 8
MOST_WIRES = 20
LONGEST_DELAY = 50
MOST_REGISTERS = 9
GREATEST_LAG = 99
GREATEST_GOAL = 400


def check_circuit(delays, wires):
    """Raise BadCircuit for values that are no delays and wires of a circuit."""
    if not is_tuple_of(delays, 1, MOST_GATES) or not all([is_between(delay, 0, LONGEST_DELAY) for delay in delays]):
        raise BadCircuit(None)
    if not is_tuple_of(wires, 0, MOST_WIRES):
        raise BadCircuit(None)
    index = wrong_index(wires, lambda wire: is_wire(wire, len(delays)))
    if index is not None:
        raise BadCircuit(index)
    if len(in_order(len(delays), wires)) < len(delays):
        raise BadCircuit(None)


def is_wire(value, many):
    """Whether any value is a wire between so many gates."""
    if not is_tuple_of(value, 3, 3) or not is_between(value[2], 0, MOST_REGISTERS):
        return False
    return is_between(value[0], 0, many - 1) and is_between(value[1], 0, many - 1)


def bare_pairs(wires):
    """The list of (from, to) of the wires without a register."""
    return [(one, other) for one, other, registers in wires if registers == 0]


def in_order(many, wires):
    """The list of the gates, each behind those from which bare wires come, but for those behind a ring of these."""
    pairs = bare_pairs(wires)
    order = []
    left = list(range(many))
    free = free_gates(left, pairs)
    while free:
        order = order + free
        left = [gate for gate in left if gate not in free]
        free = free_gates(left, pairs)
    return order


def free_gates(left, pairs):
    """Those of the gates that are left to which no bare wire comes from one of them."""
    return [gate for gate in left if not any([other == gate and one in left for one, other in pairs])]


def arrivals(delays, wires):
    """The list of the greatest sums of delays along bare wires up to each gate, its own counted."""
    sums = [0] * len(delays)
    pairs = bare_pairs(wires)
    for gate in in_order(len(delays), wires):
        sums[gate] = delays[gate] + max([sums[one] for one, other in pairs if other == gate], default=0)
    return sums


def period(delays, wires):
    """The greatest sum of the delays of gates along wires without a register."""
    check_circuit(delays, wires)
    return max(arrivals(delays, wires))


def check_lags(delays, wires, lags):
    """Raise BadLags for a value that is no lags of the circuit."""
    many = len(delays)
    if not is_tuple_of(lags, many, many) or not all([is_between(lag, -GREATEST_LAG, GREATEST_LAG) for lag in lags]):
        raise BadLags("no lag for each gate")
    if any([registers < 0 for _, _, registers in with_lags(wires, lags)]):
        raise BadLags("a wire has less than 0 registers")


def with_lags(wires, lags):
    """The tuple of the wires with the registers that they have by lags."""
    return tuple([(one, other, registers + lags[other] - lags[one]) for one, other, registers in wires])


def retimed(delays, wires, lags):
    """The tuple of the wires by lags."""
    check_circuit(delays, wires)
    check_lags(delays, wires, lags)
    return with_lags(wires, lags)


def lags_for(delays, wires, goal):
    """Lags by which the period is at most a goal, None if there are none."""
    check_circuit(delays, wires)
    check_number(goal, 0, GREATEST_GOAL)
    return least_lags(delays, wires, goal)


def least_lags(delays, wires, goal):
    """The least lags of at least 0 by which the period is at most a goal, None if there are none.

    A gate that comes too late needs a register more on some wire before it, so
    its lag must grow, whatever the others do. If there are such lags, then the
    least ones are less than there are gates: each lag above 0 is at most one
    more than that of another gate which keeps it from being less.
    """
    lags = (0,) * len(delays)
    while max(lags) < len(delays):
        sums = arrivals(delays, with_lags(wires, lags))
        if max(sums) <= goal:
            return lags
        lags = tuple([lag + 1 if late > goal else lag for lag, late in zip(lags, sums)])
    return None


def least_period(delays, wires):
    """The least period by any lags, and lags with it."""
    check_circuit(delays, wires)
    lags = (0,) * len(delays)
    least = max(arrivals(delays, wires))
    better = least_lags(delays, wires, least - 1)
    while better is not None:
        lags = better
        least = max(arrivals(delays, with_lags(wires, lags)))
        better = least_lags(delays, wires, least - 1)
    return (least, lags)


def ring_bound(delays, wires):
    """The greatest ratio of delays to registers of a ring of wires that comes to no gate twice, None without one."""
    check_circuit(delays, wires)
    best = None
    for gates, registers in rings_of(len(delays), fewest_registers(wires)):
        delay = sum([delays[gate] for gate in gates])
        if best is None or delay * best[1] > best[0] * registers:
            best = ratio(delay, registers)
    return best


def fewest_registers(wires):
    """The dict from each pair (from, to) to the fewest registers of a wire between them."""
    fewest = {}
    for one, other, registers in wires:
        fewest[(one, other)] = min(registers, fewest.get((one, other), registers))
    return fewest


def rings_of(many, fewest):
    """The list of (gates, registers) of the rings of pairs, each told once, from its least gate on."""
    rings = []
    ways = [((gate,), 0) for gate in range(many)]
    while ways:
        longer = []
        for gates, registers in ways:
            for (one, other), more in fewest.items():
                if one == gates[-1] and other == gates[0]:
                    rings.append((gates, registers + more))
                elif one == gates[-1] and other > gates[0] and other not in gates:
                    longer.append((gates + (other,), registers + more))
        ways = longer
    return rings
