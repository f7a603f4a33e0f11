"""What the document says of trees of wires and clocks, told again in another, slower way."""

from fractions import Fraction
from itertools import combinations

from chipfloor.errors import BadPins
from tests.judge import ODD_VALUES

# Values that are no tuple of 1 to 6 items.
NO_SIX = (None, True, False, 0, 1, "", "ab", [], [(0, 0)], {}, {(0, 0): 1}, (), tuple((k, 0) for k in range(7)),
          (None,) * 7, BadPins(0))
NO_POINTS = ODD_VALUES + ((0,), (0, 0, 0), [0, 0], "00", (-1, 0), (0, -1), (41, 0), (0, 41), (True, 0), (0, True),
                          (False, 0), ("0", 0), (0, None), ((0,), 0), (0, [0]), (0, 10 ** 30), ((0, 0),))


def random_pins(source, many, most):
    found = []
    while len(found) < many:
        point = (source.randint(0, most), source.randint(0, most))
        if point not in found:
            found.append(point)
    return tuple(found)


def far(one, other):
    return abs(one[0] - other[0]) + abs(one[1] - other[1])


def joined_length(points):
    """The least length of pairs that join all points: shortest ones first, but for those that are joined already."""
    groups = {point: point for point in points}

    def top(point):
        while groups[point] != point:
            point = groups[point]
        return point
    length = 0
    for one, other in sorted(combinations(points, 2), key=lambda pair: far(*pair)):
        if top(one) != top(other):
            groups[top(one)] = top(other)
            length += far(one, other)
    return length


def crossings(pins):
    return [(across, up) for across in sorted({pin[0] for pin in pins}) for up in sorted({pin[1] for pin in pins})]


def least_length(pins):
    """The least length of a tree: of all ways to add crossings, not more than the pins less two, the best."""
    others = [point for point in crossings(pins) if point not in pins]
    return min(joined_length(pins + more)
               for many in range(max(len(pins) - 1, 1)) for more in combinations(others, many))


def neighbors(pins):
    """All sides between two neighboring crossings."""
    columns = sorted({pin[0] for pin in pins})
    rows = sorted({pin[1] for pin in pins})
    level = [((left, up), (right, up)) for left, right in zip(columns, columns[1:]) for up in rows]
    return level + [((across, low), (across, high)) for low, high in zip(rows, rows[1:]) for across in columns]


def all_sides(most):
    points = [(across, up) for across in range(most + 1) for up in range(most + 1)]
    return [(one, other) for one in points for other in points
            if one < other and (one[0] == other[0] or one[1] == other[1])]


def hanging(pin, sides):
    """The set of points that hang together with a pin."""
    found = {pin}
    for _ in sides:
        for one, other in sides:
            if one in found or other in found:
                found = found | {one, other}
    return found


def plain_trunk(pins):
    found = []
    for row in sorted({pin[1] for pin in pins}):
        points = set()
        for across, up in pins:
            points |= {((across, at), (across, at + 1)) for at in range(min(row, up), max(row, up))}
        level = max(pin[0] for pin in pins) - min(pin[0] for pin in pins)
        found.append((level + len(points), row))
    return min(found)


def box_gap(one, other):
    """How far two boxes ((least, greatest) along each of two axes) are apart, along the axis where it is more."""
    return max([Fraction(0)] + [max(a[0] - b[1], b[0] - a[1]) for a, b in zip(one, other)])


def merged(ends, topology):
    """(box of turned places of the node, delay, wire), merged from the ends on: the shorter part gets more wire."""
    if isinstance(topology, int):
        across, up = ends[topology]
        return [(across + up,) * 2, (across - up,) * 2], Fraction(0), Fraction(0)
    (one, first, wire), (other, second, more) = [merged(ends, part) for part in topology]
    gap = box_gap(one, other)
    delay = max((first + second + gap) / 2, first, second)
    boxes = [[(low - reach, high + reach) for low, high in box] for box, reach in
             ((one, delay - first), (other, delay - second))]
    box = [(max(a[0], b[0]), min(a[1], b[1])) for a, b in zip(*boxes)]
    return box, delay, wire + more + 2 * delay - first - second


def as_pair(number):
    number = Fraction(number)
    return (number.numerator, number.denominator)


def plain_wire(ends, topology):
    """(wire, delay) as fractions."""
    _, delay, wire = merged(ends, topology)
    return wire, delay


def all_topologies(indexes):
    """All topologies of a tuple of ends, each pair in both orders."""
    if len(indexes) == 1:
        return [indexes[0]]
    found = []
    for many in range(1, len(indexes)):
        for one in combinations(indexes, many):
            other = tuple(index for index in indexes if index not in one)
            found.extend((first, second) for first in all_topologies(one) for second in all_topologies(other))
    return found


def random_topology(source, indexes):
    """Of a list."""
    if len(indexes) == 1:
        return indexes[0]
    mixed = source.sample(indexes, len(indexes))
    at = source.randint(1, len(indexes) - 1)
    return random_topology(source, mixed[:at]), random_topology(source, mixed[at:])


def parts_below(topology):
    """The topologies of all nodes, the root first, then those of the first part, then those of the second one."""
    if isinstance(topology, int):
        return [topology]
    return [topology] + parts_below(topology[0]) + parts_below(topology[1])


def ends_of(topology):
    return [part for part in parts_below(topology) if isinstance(part, int)]
