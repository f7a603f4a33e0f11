"""What the document says of wires and buffers, told again in another way: from the root on, with fractions."""

from fractions import Fraction
from itertools import combinations

from chipfloor.errors import BadWires
from tests.judge import ODD_VALUES

ONE = (0, 2, 4, 3, 50)
NO_LISTS = (None, True, False, 0, 1, "", "ab", (), [], [ONE], {}, {ONE: 1}, (ONE,) * 9, (None,) * 9, BadWires(0))
# Values that are no amount.
NO_AMOUNTS = tuple(value for value in ODD_VALUES if value.__class__ is not int or value not in range(1001)) + (
    -1, 1001, 10 ** 30, True, False, "5", (5,), [5])
# Values that are no node of wires, whatever its number.
NO_WIRES = ODD_VALUES + (ONE[:4], ONE + (0,), list(ONE), "01234", (ONE,), (-1,) + ONE[1:], (8,) + ONE[1:]) + tuple(
    ONE[:at] + (value,) + ONE[at + 1:] for at in range(1, 5) for value in NO_AMOUNTS) + tuple(
    (value,) + ONE[1:] for value in NO_AMOUNTS)
NO_BUFFERS = ODD_VALUES + ((1, 2), (1, 2, 3, 4), [1, 2, 3], "123", (1, 2, (3,))) + tuple(
    (1, 2, 3)[:at] + (value,) + (1, 2, 3)[at + 1:] for at in range(3) for value in NO_AMOUNTS)
# Values that are no spots for two nodes.
NO_SPOTS = tuple(value for value in ODD_VALUES if value != ()) + (
    (0,), (3,), (-1,), (1, 1), (2, 1), (1, 2, 3), (0, 1), (1, 3), [1], [1, 2], "1", ("1",), (True,), (True, 2), (1, None),
    ((1,),), ([1],), (1, 10 ** 30), {1: 1})


def random_wires(source, many, most):
    return tuple((source.randint(0, at),) + tuple(source.randint(0, most) for _ in range(4)) for at in range(many))


def below(wires, node):
    return [each for each in range(1, len(wires) + 1) if wires[each - 1][0] == node]


def hanging(wires, buffer, spots, node):
    """What hangs at a node."""
    load = 0 if node == 0 else wires[node - 1][3]
    return load + sum(wires[each - 1][2] + seen(wires, buffer, spots, each) for each in below(wires, node))


def seen(wires, buffer, spots, node):
    """What hangs behind the wire to a node."""
    return buffer[0] if node in spots else hanging(wires, buffer, spots, node)


def delay(wires, driver, buffer, spots, node):
    """The delay from the driver on, that of a buffer at the node counted."""
    if node == 0:
        return Fraction(driver * hanging(wires, buffer, spots, 0))
    parent, resistance, capacitance, _, _ = wires[node - 1]
    total = delay(wires, driver, buffer, spots, parent)
    total += resistance * (Fraction(capacitance, 2) + seen(wires, buffer, spots, node))
    if node in spots:
        total += buffer[2] + buffer[1] * hanging(wires, buffer, spots, node)
    return total


def slack(wires, driver, buffer, spots):
    ends = [node for node in range(1, len(wires) + 1) if not below(wires, node)]
    return 2 * min(wires[node - 1][4] - delay(wires, driver, buffer, spots, node) for node in ends)


def all_spots(many):
    return [spots for size in range(many + 1) for spots in combinations(range(1, many + 1), size)]
