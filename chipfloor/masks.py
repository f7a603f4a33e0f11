"""Masks: boxes on the layers of a chip, what hangs together, and what breaks the rules of a layer.

What a layer covers is told by columns: for each unit step across a number
whose bits tell which unit cells of this column are covered, from below on.
"""

from chipfloor.checks import check_number, is_between, is_tuple_of, wrong_index
from chipfloor.errors import BadMask, BadNumber

LAYERS = ("metal", "poly", "cut")
MOST_BOXES = 24
FARTHEST = 60

# Where a box (layer, left, low, right, high) has its begin across and up; its
# ends stand two items behind.
ACROSS = 1
UP = 2


def check_mask(mask):
    """Raise BadMask for a value that is no mask."""
    if not is_tuple_of(mask, 0, MOST_BOXES):
        raise BadMask(None)
    index = wrong_index(mask, is_box)
    if index is not None:
        raise BadMask(index)


def is_box(value):
    """Whether any value is a box."""
    if not is_tuple_of(value, 5, 5) or not is_layer(value[0]):
        return False
    if not all([is_between(place, 0, FARTHEST) for place in value[1:]]):
        return False
    _, left, low, right, high = value
    return left < right and low < high


def is_layer(value):
    """Whether any value is a layer."""
    return isinstance(value, str) and value in LAYERS


def check_layer(mask, layer):
    """Raise BadMask or BadNumber for values that are no mask and a layer."""
    check_mask(mask)
    if not is_layer(layer):
        raise BadNumber("no layer")


def indexes_of(mask, layer):
    """The ascending list of the indexes of the boxes of a layer."""
    return [index for index, box in enumerate(mask) if box[0] == layer]


def shared(one, other, axis):
    """How much two boxes have in common along an axis: less than 0 if there is a gap."""
    return min(one[axis + 2], other[axis + 2]) - max(one[axis], other[axis])


def do_overlap(one, other):
    """Whether two boxes have a common inner point."""
    return shared(one, other, ACROSS) > 0 and shared(one, other, UP) > 0


def do_touch(one, other):
    """Whether two boxes have a common inner point or a piece of a side in common."""
    across, up = shared(one, other, ACROSS), shared(one, other, UP)
    return min(across, up) >= 0 and max(across, up) > 0


def are_joined(one, other):
    """Whether two boxes hang together by themselves."""
    if one[0] == other[0]:
        return do_touch(one, other)
    return "cut" in (one[0], other[0]) and do_overlap(one, other)


def nets(mask):
    """The list of the ascending tuples of the indexes of boxes that hang together."""
    check_mask(mask)
    return nets_of(mask)


def nets_of(mask):
    """The same for what is known to be a mask."""
    found = []
    taken = {}
    for index in range(len(mask)):
        if index not in taken:
            net = net_with(mask, index)
            found.append(net)
            for each in net:
                taken[each] = True
    return found


def net_with(mask, index):
    """The ascending tuple of the indexes of the boxes that hang together with one."""
    net = {index: True}
    waiting = [index]
    while waiting:
        box = mask[waiting.pop()]
        for other in range(len(mask)):
            if other not in net and are_joined(box, mask[other]):
                net[other] = True
                waiting.append(other)
    return tuple(sorted(net))


def gates(mask):
    """The ascending tuple of (index of a poly box, index of a metal box) with a common inner point."""
    check_mask(mask)
    return tuple([(one, other) for one in indexes_of(mask, "poly") for other in indexes_of(mask, "metal")
                  if do_overlap(mask[one], mask[other])])


def columns_of(mask, layer):
    """The columns that a layer covers."""
    columns = [0] * FARTHEST
    for box_layer, left, low, right, high in mask:
        if box_layer == layer:
            for across in range(left, right):
                columns[across] |= bits_between(low, high)
    return columns


def bits_between(low, high):
    """The number with the bits from low on, before high."""
    return (1 << high) - (1 << low)


def count_bits(number):
    """How many bits of a number are set."""
    many = 0
    while number > 0:
        number &= number - 1
        many += 1
    return many


def area(mask, layer):
    """The area that a layer covers."""
    check_layer(mask, layer)
    return sum([count_bits(column) for column in columns_of(mask, layer)])


def rim(mask, layer):
    """The length of the border between what a layer covers and what it does not."""
    check_layer(mask, layer)
    columns = columns_of(mask, layer)
    level = sum([count_bits(column ^ (column << 1)) for column in columns])
    upright = sum([count_bits(one ^ other) for one, other in zip([0] + columns, columns + [0])])
    return level + upright


def too_near(mask, layer, least):
    """The ascending tuple of the pairs of boxes of a layer, of unlike nets, that are less than least apart."""
    check_layer(mask, layer)
    check_number(least, 1, FARTHEST)
    net_of = {index: net for net in nets_of(mask) for index in net}
    indexes = indexes_of(mask, layer)
    return tuple([(one, other) for one in indexes for other in indexes
                  if one < other and net_of[one] != net_of[other]
                  and square_apart(mask[one], mask[other]) < least * least])


def square_apart(one, other):
    """The sum of the squares of the gaps between two boxes."""
    across = max(-shared(one, other, ACROSS), 0)
    up = max(-shared(one, other, UP), 0)
    return across * across + up * up


def too_narrow(mask, layer, least):
    """The ascending list of the unit cells of a layer that lie in no covered square of least by least ones."""
    check_layer(mask, layer)
    check_number(least, 1, FARTHEST)
    columns = columns_of(mask, layer)
    wide = squares_filled(squares_in(columns, least), least)
    return [(across, up) for across in range(FARTHEST) for up in range(FARTHEST)
            if (columns[across] ^ wide[across]) >> up & 1 == 1]


def squares_in(columns, least):
    """The columns of the lower left cells of the covered squares of least by least cells."""
    slim = []
    for column in columns:
        kept = column
        for step in range(1, least):
            kept &= column >> step
        slim.append(kept)
    return [meet(slim[across:across + least]) for across in range(FARTHEST - least + 1)]


def meet(columns):
    """The cells that all columns have."""
    kept = columns[0]
    for column in columns[1:]:
        kept &= column
    return kept


def squares_filled(corners, least):
    """The columns that squares of least by least cells cover, from those of their lower left cells."""
    filled = [0] * FARTHEST
    for across, column in enumerate(corners):
        high = 0
        for step in range(least):
            high |= column << step
        for step in range(least):
            filled[across + step] |= high
    return filled


def bare_cuts(mask, layer, margin):
    """The ascending tuple of the indexes of cuts that, wider by a margin, the layer does not cover."""
    check_layer(mask, layer)
    check_number(margin, 0, FARTHEST)
    columns = columns_of(mask, layer)
    return tuple([index for index in indexes_of(mask, "cut") if not is_covered(columns, mask[index], margin)])


def is_covered(columns, box, margin):
    """Whether columns cover a box that is wider by a margin on all sides."""
    left, low, right, high = box[1] - margin, box[2] - margin, box[3] + margin, box[4] + margin
    # Nothing is covered outside of where boxes may be.
    if min(left, low) < 0 or max(right, high) > FARTHEST:
        return False
    bits = bits_between(low, high)
    return all([column & bits == bits for column in columns[left:right]])
