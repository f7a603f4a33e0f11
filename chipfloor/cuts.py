"""Cuts: cells on two sides, and the nets that have cells on both."""

from itertools import combinations

from chipfloor.checks import check_number, is_ascending, is_between, is_tuple_of, wrong_index
from chipfloor.errors import BadNets, BadSides

MOST_CELLS = 8
MOST_NETS = 20


def check_nets(many, nets):
    """Raise BadNumber or BadNets for values that are no number of cells and nets of them."""
    check_number(many, 1, MOST_CELLS)
    if not is_tuple_of(nets, 0, MOST_NETS):
        raise BadNets(None)
    index = wrong_index(nets, lambda net: is_cells(net, many) and len(net) >= 2)
    if index is not None:
        raise BadNets(index)


def is_cells(value, many):
    """Whether any value is an ascending tuple of unlike ones of so many cells."""
    if not is_tuple_of(value, 0, many) or not all([is_between(cell, 0, many - 1) for cell in value]):
        return False
    return is_ascending(value)


def check_cut(many, nets, side):
    """Raise BadNumber, BadNets or BadSides for values that are no nets of cells and a side of these."""
    check_nets(many, nets)
    if not is_cells(side, many):
        raise BadSides("no ascending tuple of unlike cells")


def count_cut(nets, side):
    """How many nets have cells both in the side and not in it."""
    return len([net for net in nets if 0 < len([cell for cell in net if cell in side]) < len(net)])


def cut(many, nets, side):
    """How many nets a side cuts."""
    check_cut(many, nets, side)
    return count_cut(nets, side)


def with_changed(side, cells):
    """The side behind a change of sides of cells."""
    stay = [cell for cell in side if cell not in cells]
    come = [cell for cell in cells if cell not in side]
    return tuple(sorted(stay + come))


def gains(many, nets, side):
    """The tuple of how many fewer nets would be cut if each cell changed sides."""
    check_cut(many, nets, side)
    now = count_cut(nets, side)
    return tuple([now - count_cut(nets, with_changed(side, (cell,))) for cell in range(many)])


def least_cut(many, nets, low):
    """The least (how many nets are cut, side) with cell 0 in it and at least low cells in it and not in it."""
    check_nets(many, nets)
    check_number(low, 0, many // 2)
    # The side has cell 0 at least, whatever low is.
    sides = [side for size in range(max(low, 1), many - low + 1)
             for side in combinations(range(many), size) if side[0] == 0]
    return min([(count_cut(nets, side), side) for side in sides])


def better(many, nets, side):
    """The first side of a pass that is better by the most, the side itself if none is."""
    check_cut(many, nets, side)
    return better_side(many, nets, side)


def better_side(many, nets, side):
    """The same for what is known to be right."""
    # The first one of the least is taken: the side itself if none is less.
    return min(sides_of_pass(many, nets, side), key=lambda each: count_cut(nets, each))


def sides_of_pass(many, nets, side):
    """The list of the side and the sides behind each swap of a pass."""
    sides = [side]
    left = list(range(many))
    pair = next_swap(nets, side, left)
    while pair != ():
        side = with_changed(side, pair)
        sides.append(side)
        left = [cell for cell in left if cell not in pair]
        pair = next_swap(nets, side, left)
    return sides


def next_swap(nets, side, left):
    """The cell in the side and the one not in it, both of those left, with the least cut; () if there are none."""
    swaps = [(count_cut(nets, with_changed(side, (one, other))), one, other)
             for one in left if one in side
             for other in left if other not in side]
    return min(swaps, default=(0,))[1:]


def best_by_passes(many, nets, side):
    """The side behind passes till one changes nothing."""
    check_cut(many, nets, side)
    behind = better_side(many, nets, side)
    while behind != side:
        side = behind
        behind = better_side(many, nets, side)
    return side
