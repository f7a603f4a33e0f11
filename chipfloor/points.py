"""Points of the plane: what trees of wires and clocks need of them."""

from chipfloor.checks import is_between, is_tuple_of

MOST_POINTS = 6
FARTHEST = 40


def is_point(value):
    """Whether any value is a point."""
    return is_tuple_of(value, 2, 2) and is_between(value[0], 0, FARTHEST) and is_between(value[1], 0, FARTHEST)


def distance(one, other):
    """The length of the shortest level and upright way between two points."""
    return abs(one[0] - other[0]) + abs(one[1] - other[1])
