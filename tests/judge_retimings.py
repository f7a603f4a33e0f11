"""What the document says of circuits, told again in another, slower way."""

from fractions import Fraction
from itertools import permutations, product

from chipfloor.errors import BadCircuit
from tests.judge import ODD_VALUES

ONE = (0, 1, 1)
NO_DELAYS = (None, True, False, 0, 1, "", "ab", (), [], [1, 2], {}, {1: 2}, (1,) * 9, (None,) * 9, BadCircuit(0),
             (51, 1), (1, 51), (-1, 1), (True, 1), (1, False), (None, 1), (1, "1"), ((1,), 1), (1, [1]), (1, 10 ** 30))
NO_LISTS = (None, True, False, 0, 1, "", "ab", [], [ONE], {}, {ONE: 1}, (ONE,) * 21, (None,) * 21, BadCircuit(0))
# Values that are no wire of two gates, nor of one.
NO_WIRES = ODD_VALUES + (
    ONE[:2], ONE + (0,), list(ONE), "011", (ONE,), (2, 1, 1), (0, 2, 1), (-1, 1, 1), (0, -1, 1), (0, 1, 10), (0, 1, -1),
    (True, 1, 1), (0, True, 1), (0, 1, True), (False, 1, 1), (0, 1, False), ("0", 1, 1), (0, None, 1), (0, 1, None),
    ((0,), 1, 1), (0, [1], 1), (0, 1, (1,)), (0, 1, 10 ** 30), (10 ** 30, 1, 1))
# Values that are no lags of two gates.
NO_LAGS = ODD_VALUES + ((0,), (0, 0, 0), [0, 0], "00", (True, 0), (0, False), (None, 0), (0, "0"), ((0,), 0), (0, [0]),
                        (100, 100), (-100, -100), (99, 100), (0, 10 ** 30), {0: 0, 1: 0})


def rings(many, wires):
    """All rings of wires that come to no gate twice, as (gates, registers)."""
    found = []
    for size in range(1, many + 1):
        for gates in permutations(range(many), size):
            if gates[0] == min(gates):
                between = [[registers for one, other, registers in wires if (one, other) == pair]
                           for pair in zip(gates, gates[1:] + gates[:1])]
                found += [(gates, sum(choice)) for choice in product(*between)]
    return found


def is_circuit(many, wires):
    return all(registers > 0 for _, registers in rings(many, wires))


def random_circuit(source, many, most_wires, most_delay, most_registers):
    while True:
        delays = tuple(source.randint(0, most_delay) for _ in range(many))
        wires = tuple((source.randrange(many), source.randrange(many), source.randint(0, most_registers))
                      for _ in range(source.randint(0, most_wires)))
        if is_circuit(many, wires):
            return delays, wires


def longest(delays, wires, gate):
    """The greatest sum along wires without a register from a gate on."""
    return delays[gate] + max([longest(delays, wires, other) for one, other, registers in wires
                               if one == gate and registers == 0], default=0)


def plain_period(delays, wires):
    return max(longest(delays, wires, gate) for gate in range(len(delays)))


def with_lags(wires, lags):
    return tuple((one, other, registers + lags[other] - lags[one]) for one, other, registers in wires)


def are_lags(many, wires, lags):
    return (isinstance(lags, tuple) and len(lags) == many and all(lag.__class__ is int and -99 <= lag <= 99 for lag in lags)
            and all(registers >= 0 for _, _, registers in with_lags(wires, lags)))


def plain_least_period(delays, wires):
    """Over all lags that differ by at most as much as there are gates; greater ones give nothing more."""
    many = len(delays)
    return min(plain_period(delays, with_lags(wires, lags)) for lags in product(range(many + 1), repeat=many)
               if min(lags) == 0 and are_lags(many, wires, lags))


def plain_ring_bound(delays, wires):
    return max([Fraction(sum(delays[gate] for gate in gates), registers) for gates, registers in rings(len(delays), wires)],
               default=None)
