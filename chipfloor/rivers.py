"""Rivers: wires in one layer that join two rows of pins in their order."""

from chipfloor.checks import check_number, is_between, is_tuple_of
from chipfloor.errors import BadPins

MOST_PINS = 8
FARTHEST = 40
LEAST_CORNER = -40
GREATEST_CORNER = 80


def check_river(lows, highs):
    """Raise BadPins for values that are no two rows of as many pins."""
    check_row(lows, 0, MOST_PINS)
    check_row(highs, len(lows), len(lows))


def check_row(row, least, most):
    """Raise BadPins for a value that is no row of least to most pins."""
    if not is_tuple_of(row, least, most):
        raise BadPins(None)
    for index, place in enumerate(row):
        if not is_between(place, 0, FARTHEST) or (index > 0 and place <= row[index - 1]):
            raise BadPins(index)


def river_height(lows, highs):
    """The fewest tracks on which wires can join the pins."""
    check_river(lows, highs)
    return height_of(lows, highs)


def height_of(lows, highs):
    """The same for two rows of as many ascending places, wherever they are."""
    height = 0
    while not are_enough(height, lows, highs):
        height += 1
    return height


def are_enough(height, lows, highs):
    """Whether wires can join the pins on so many tracks."""
    limits = limits_of(lows, highs, height)
    return limits is None or limits[0] <= 0 <= limits[1]


def limits_of(lows, highs, height):
    """The shifts of highs between which so many tracks are enough, None if there is no limit.

    The first one is beyond the second one if no shift will do.
    """
    begins = range(len(lows) - height)
    if len(begins) == 0:
        return None
    least = max([height + lows[begin] - highs[begin + height] for begin in begins])
    greatest = min([lows[begin + height] - highs[begin] - height for begin in begins])
    return (least, greatest)


def wires(lows, highs):
    """The tuple of the wires on the fewest tracks."""
    check_river(lows, highs)
    height = height_of(lows, highs)
    return tuple([wire_of(index, lows, highs, height) for index in range(len(lows))])


def wire_of(index, lows, highs, height):
    """The corners of a wire that goes as far as it may on each track, the early ones first."""
    path = [(lows[index], 0)]
    for row in range(1, height + 1):
        path.append((rising_place(index, lows, highs, row), row))
        path.append((rising_place(index, lows, highs, row + 1), row))
    path.append((highs[index], height + 1))
    return corners_of(path)


def rising_place(index, lows, highs, row):
    """The place at which a wire leaves the track below a row, or its lower pin.

    It may go there at once, but for the wires that it would meet on the way:
    they rise ahead of it, each one a track lower and a place further than the
    wire before.
    """
    ahead = row - 1
    if highs[index] >= lows[index]:
        if index + ahead >= len(lows):
            return highs[index]
        return min(highs[index], lows[index + ahead] - ahead)
    if index - ahead < 0:
        return highs[index]
    return max(highs[index], lows[index - ahead] + ahead)


def corners_of(path):
    """The tuple of the ends of a path and of the points in which it turns."""
    kept = []
    for point in path:
        if len(kept) > 1 and is_in_line(kept[-2], kept[-1], point):
            kept.pop()
        if not kept or point != kept[-1]:
            kept.append(point)
    return tuple(kept)


def is_in_line(one, other, third):
    """Whether three points stand in one row or one column."""
    return one[0] == other[0] == third[0] or one[1] == other[1] == third[1]


def is_river(lows, highs, height, value):
    """Whether any value is a tuple of wires that join the pins on so many tracks."""
    check_river(lows, highs)
    check_number(height, 0, MOST_PINS)
    if not is_tuple_of(value, len(lows), len(lows)):
        return False
    for wire, low, high in zip(value, lows, highs):
        if not is_wire(wire, (low, 0), (high, height + 1)):
            return False
    return are_apart(value)


def is_wire(value, begin, end):
    """Whether any value is a wire from a point to a point, its corners between on tracks."""
    if not isinstance(value, tuple) or not all([is_corner(corner, end[1]) for corner in value]):
        return False
    if len(value) < 2 or value[0] != begin or value[-1] != end:
        return False
    if not all([0 < height < end[1] for _, height in value[1:-1]]):
        return False
    return all([one[0] == other[0] or one[1] == other[1] for one, other in zip(value, value[1:])])


def is_corner(value, highest):
    """Whether any value is a point within the limits."""
    if not is_tuple_of(value, 2, 2) or not is_between(value[0], LEAST_CORNER, GREATEST_CORNER):
        return False
    return is_between(value[1], 0, highest)


def are_apart(all_wires):
    """Whether no two wires have a common point.

    All corners are at whole places and heights, so wires that meet do so at a
    point of this kind, too.
    """
    owners = {}
    for index, wire in enumerate(all_wires):
        for point in points_of(wire):
            if owners.setdefault(point, index) != index:
                return False
    return True


def points_of(wire):
    """The list of all points of a wire at whole places and heights."""
    found = []
    for one, other in zip(wire, wire[1:]):
        (left, low), (right, high) = sorted([one, other])
        found.extend([(place, height) for place in range(left, right + 1) for height in range(low, high + 1)])
    return found


def shifts(lows, highs, height):
    """The least and the greatest shift of highs with which so many tracks are enough."""
    check_river(lows, highs)
    check_number(height, 0, MOST_PINS)
    limits = limits_of(lows, highs, height)
    if limits is not None and limits[0] > limits[1]:
        return ()
    return limits


def best_shift(lows, highs):
    """The fewest tracks by any shift of highs, and the least shift with them."""
    check_river(lows, highs)
    height = 0
    limits = limits_of(lows, highs, height)
    while limits is not None and limits[0] > limits[1]:
        height += 1
        limits = limits_of(lows, highs, height)
    if limits is None:
        return (height, 0)
    return (height, limits[0])
