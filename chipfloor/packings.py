"""Packings: spots without overlap, told by two orders of the blocks."""

from itertools import combinations, permutations

from chipfloor.checks import check_order, is_tuple_of
from chipfloor.errors import BadOrders
from chipfloor.spots import MOST_BLOCKS, area_of, bounds_of, check_few_sizes, check_packing, check_sizes, end_of
from chipfloor.spots import in_block_order, wrong_spot


def is_packing(value):
    """Whether any value is a packing."""
    return is_tuple_of(value, 1, MOST_BLOCKS) and wrong_spot(value) is None


def bounds(spots):
    """The size, from (0, 0), of a packing."""
    check_packing(spots)
    return bounds_of(spots)


def packed(sizes, first, second):
    """The tuple of the spots of the blocks that two orders tell."""
    check_told(sizes, first, second)
    return spots_told(sizes, first, second)


def check_told(sizes, first, second):
    """Raise BadSizes or BadOrders for values that are no sizes and two orders of their blocks."""
    check_sizes(sizes)
    check_order(first, len(sizes))
    check_order(second, len(sizes))


def spots_told(sizes, first, second):
    """The tuple of the spots, each block at its least places."""
    spots = {}
    # All blocks left of a block and below it stand ahead of it in the second order.
    for block in second:
        left = pushed_to(0, block, spots, first)
        low = pushed_to(1, block, spots, first)
        spots[block] = (left, low) + sizes[block]
    return in_block_order(spots)


def pushed_to(axis, block, spots, first):
    """The least place along an axis at which the block begins behind the spots that push it there."""
    ends = [end_of(spot, axis) for other, spot in spots.items() if axis_of(other, block, first) == axis]
    return max(ends, default=0)


def axis_of(one, other, first):
    """0 if one is left of the other, 1 if it is below it, one being ahead of it in the second order."""
    if first.index(one) < first.index(other):
        return 0
    return 1


def critical(sizes, first, second):
    """A row of blocks that makes the packing as wide as it is, and one that makes it as high."""
    check_told(sizes, first, second)
    spots = spots_told(sizes, first, second)
    return (pushing_row(0, spots, first, second), pushing_row(1, spots, first, second))


def pushing_row(axis, spots, first, second):
    """Blocks from 0 to the end of the bounds along an axis, each one pushed by the one before it."""
    block = max(second, key=lambda each: end_of(spots[each], axis))
    row = (block,)
    while spots[block][axis] > 0:
        block = pusher_of(block, axis, spots, first, second)
        row = (block,) + row
    return row


def pusher_of(block, axis, spots, first, second):
    """A block that ends where the given one begins, and is before it along the axis by the orders."""
    ahead = second[:second.index(block)]
    pushers = [other for other in ahead if axis_of(other, block, first) == axis]
    return max(pushers, key=lambda each: end_of(spots[each], axis))


def orders_of(spots):
    """Two orders by which no block is packed further to the right or up than its spot."""
    check_packing(spots)
    return (lined_up(spots, is_left_or_over), lined_up(spots, is_left_or_under))


def is_left_or_over(one, other):
    """Whether a spot ends to the left of another one or begins above it."""
    return end_of(one, 0) <= other[0] or end_of(other, 1) <= one[1]


def is_left_or_under(one, other):
    """Whether a spot ends to the left of another one or below it."""
    return end_of(one, 0) <= other[0] or end_of(one, 1) <= other[1]


def lined_up(spots, may_lead):
    """An order of the blocks in which each one may lead all those behind it.

    There is always a block that may lead all that are left: spots do not
    overlap, so staircases between them never cross. If one block is ahead of
    another one in both orders, it can but be left of it, and if it is ahead in
    the second one alone, below it, as two spots are not both over and under,
    nor left and right of one another.
    """
    order = ()
    while len(order) < len(spots):
        left = [block for block in range(len(spots)) if block not in order]
        order = order + (leader(left, spots, may_lead),)
    return order


def leader(blocks, spots, may_lead):
    """The first one of the blocks that may lead all others of them."""
    for block in blocks:
        if all([other == block or may_lead(spots[block], spots[other]) for other in blocks]):
            return block
    return None


def best_packing(sizes):
    """The least area over all orders, and two orders with it."""
    check_few_sizes(sizes)
    orders = list(permutations(range(len(sizes))))
    return min([(area_of(spots_told(sizes, first, second)), first, second) for first in orders for second in orders])


def check_pair(first, second):
    """Raise BadOrders for values that are no two orders of 1 to 8 blocks."""
    if not is_tuple_of(first, 1, MOST_BLOCKS):
        raise BadOrders(f"no order of 1 to {MOST_BLOCKS} blocks")
    check_order(first, len(first))
    check_order(second, len(first))


def pattern(first, second):
    """The least four places of the first order that keep two orders from a slicing word, None without such."""
    check_pair(first, second)
    ranks = [second.index(block) for block in first]
    for i, j, k, m in combinations(range(len(first)), 4):
        if ranks[k] < ranks[i] < ranks[m] < ranks[j] or ranks[j] < ranks[m] < ranks[i] < ranks[k]:
            return (i, j, k, m)
    return None


def slicing_of(first, second):
    """A slicing word whose floor takes no more than two orders do, None if there is a pattern."""
    check_pair(first, second)
    return word_of_orders(first, second)


def word_of_orders(first, second):
    """The word of the blocks that both orders have, None if no cut parts them.

    Parts of orders that can be cut can be cut themselves, wherever they are
    parted first, so the first cut that is found is as good as any.
    """
    if len(first) == 1:
        return first
    for at in range(1, len(first)):
        rest = len(first) - at
        if have_same_blocks(first[:at], second[:at]):
            return joined(word_of_orders(first[:at], second[:at]), word_of_orders(first[at:], second[at:]), "V")
        if have_same_blocks(first[:at], second[rest:]):
            # What is ahead in the second order alone stands below.
            return joined(word_of_orders(first[at:], second[:rest]), word_of_orders(first[:at], second[rest:]), "H")
    return None


def have_same_blocks(one, other):
    """Whether two parts of orders have the same blocks."""
    return sorted(one) == sorted(other)


def joined(one, other, letter):
    """The word of two words, None if one of them is None."""
    if one is None or other is None:
        return None
    return one + other + (letter,)
