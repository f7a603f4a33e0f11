"""Spots of blocks: what packings and bushes need of them. Axis 0 goes across, axis 1 up."""

from chipfloor.checks import is_between, is_size, is_tuple_of, wrong_index
from chipfloor.errors import BadPacking, BadSizes, TooMany

MOST_BLOCKS = 8
MOST_SEARCHED = 4
FARTHEST = 1000


def is_spot(value):
    """Whether any value is a spot."""
    if not is_tuple_of(value, 4, 4) or not is_size(value[2:]):
        return False
    return is_between(value[0], 0, FARTHEST) and is_between(value[1], 0, FARTHEST)


def end_of(spot, axis):
    """The place where a spot ends along an axis."""
    return spot[axis] + spot[axis + 2]


def do_share(one, other, axis):
    """Whether two spots have more than a border in common along an axis."""
    return one[axis] < end_of(other, axis) and other[axis] < end_of(one, axis)


def do_overlap(one, other):
    """Whether two spots have a common inner point."""
    return do_share(one, other, 0) and do_share(one, other, 1)


def wrong_spot(spots):
    """The index of the first item that is no spot or overlaps an earlier one, None if all are right."""
    for index, spot in enumerate(spots):
        if not is_spot(spot) or any([do_overlap(spot, earlier) for earlier in spots[:index]]):
            return index
    return None


def check_packing(spots):
    """Raise BadPacking for a value that is no packing."""
    if not is_tuple_of(spots, 1, MOST_BLOCKS):
        raise BadPacking(None)
    index = wrong_spot(spots)
    if index is not None:
        raise BadPacking(index)


def check_sizes(sizes):
    """Raise BadSizes for a value that is no sizes, one for each block."""
    if not is_tuple_of(sizes, 1, MOST_BLOCKS):
        raise BadSizes(None)
    index = wrong_index(sizes, is_size)
    if index is not None:
        raise BadSizes(index)


def check_few_sizes(sizes):
    """The same for those that are searched in all ways: TooMany for more of them."""
    check_sizes(sizes)
    if len(sizes) > MOST_SEARCHED:
        raise TooMany(MOST_SEARCHED)


def bounds_of(spots):
    """The width and the height, from (0, 0), of what the spots take."""
    return (max([end_of(spot, 0) for spot in spots]), max([end_of(spot, 1) for spot in spots]))


def area_of(spots):
    """The area of the bounds of spots."""
    width, height = bounds_of(spots)
    return width * height


def in_block_order(spots):
    """The tuple of the spots of a dict from blocks to spots."""
    return tuple([spots[block] for block in sorted(spots)])
