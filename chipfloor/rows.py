"""Rows of cells: orders of cells with nets, and places of cells without overlap."""

from chipfloor.checks import check_number, check_order, is_between, is_integer, is_tuple_of, wrong_index
from chipfloor.cuts import check_nets, count_cut
from chipfloor.errors import BadRow
from chipfloor.ratios import ratio

MOST_CELLS = 8
FARTHEST = 200
MOST_WIDTH = 20
MOST_WEIGHT = 20
MOST_ROOM = 400


def wire_length(many, nets, order):
    """The sum of the last less the first place of the cells of each net."""
    check_nets(many, nets)
    check_order(order, many)
    return sum(crossings_of(nets, order))


def crossings(many, nets, order):
    """The tuple of how many nets have cells on both sides of each gap."""
    check_nets(many, nets)
    check_order(order, many)
    return crossings_of(nets, order)


def crossings_of(nets, order):
    """The same for what is known to be right."""
    return tuple([count_cut(nets, order[:gap]) for gap in range(1, len(order))])


def least_length(many, nets):
    """The least wire length, and an order with it."""
    check_nets(many, nets)
    # A net is as long as it crosses gaps.
    return least_order(many, nets, lambda before, crossed: before + crossed)


def least_width(many, nets):
    """The least greatest number of crossings, and an order with it."""
    check_nets(many, nets)
    return least_order(many, nets, lambda before, crossed: max(before, crossed))


def least_order(many, nets, cost_with):
    """The least cost of an order and such an order, cost_with(cost before, nets crossed) adding a gap to the cost.

    What crosses the gaps behind some cells does not depend on their order, so
    one best order of each group of cells at the front is enough.
    """
    fronts = {(): (0, ())}
    for _ in range(many):
        fronts = longer_fronts(many, nets, cost_with, fronts)
    return fronts[tuple(range(many))]


def longer_fronts(many, nets, cost_with, fronts):
    """The dict from groups of one cell more, ascending, to their least (cost, order)."""
    longer = {}
    for group, (before, order) in fronts.items():
        for cell in range(many):
            if cell not in group:
                grown = tuple(sorted(group + (cell,)))
                entry = (cost_with(before, count_cut(nets, grown)), order + (cell,))
                longer[grown] = min(entry, longer.get(grown, entry))
    return longer


def check_cells(cells):
    """Raise BadRow for a value that is no cells in a row."""
    if not is_tuple_of(cells, 0, MOST_CELLS):
        raise BadRow(None)
    index = wrong_index(cells, is_cell)
    if index is not None:
        raise BadRow(index)


def is_cell(value):
    """Whether any value is (wanted place, width, weight)."""
    if not is_tuple_of(value, 3, 3) or not is_between(value[0], 0, FARTHEST):
        return False
    return is_between(value[1], 1, MOST_WIDTH) and is_between(value[2], 1, MOST_WEIGHT)


def legal(cells, room):
    """The tuple of the places, with the least cost, of the cells in their order without overlap."""
    check_cells(cells)
    taken = sum([width for _, width, _ in cells])
    check_number(room, taken, MOST_ROOM)
    places = []
    before = 0
    for (_, width, _), (total, weight) in zip(cells, means_of(cells)):
        # Without the cells before it, a cell has this much room to move.
        total = min(max(total, 0), (room - taken) * weight)
        places.append(ratio(total + before * weight, weight))
        before += width
    return tuple(places)


def means_of(cells):
    """For each cell a pair (total, weight), the mean wanted place of the block of cells in which it stands.

    Places are told without the widths of all cells before. Cells that want to
    be ahead of those before them stand in one block with them, where the mean
    of all is best for each.
    """
    blocks = []
    before = 0
    for wanted, width, weight in cells:
        blocks = with_block(blocks, ((wanted - before) * weight, weight, 1))
        before += width
    return [(total, weight) for total, weight, many in blocks for _ in range(many)]


def with_block(blocks, block):
    """The blocks with one more (total, weight, how many cells), joined to those that it cannot follow."""
    total, weight, many = block
    left = list(blocks)
    while left and left[-1][0] * weight >= total * left[-1][1]:
        more_total, more_weight, more = left.pop()
        total, weight, many = total + more_total, weight + more_weight, many + more
    return left + [(total, weight, many)]


def cost(cells, places):
    """The sum of weight times the square of the difference between the place and the wanted one."""
    check_cells(cells)
    check_places(places, len(cells))
    total, shared = 0, 1
    for (wanted, _, weight), (numerator, denominator) in zip(cells, places):
        apart = numerator - wanted * denominator
        square = denominator * denominator
        total, shared = ratio(total * square + weight * apart * apart * shared, shared * square)
    return (total, shared)


def check_places(places, many):
    """Raise BadRow for a value that is no tuple of as many places."""
    if not is_tuple_of(places, many, many):
        raise BadRow(None)
    index = wrong_index(places, is_place)
    if index is not None:
        raise BadRow(index)


def is_place(value):
    """Whether any value is a pair of integers, the second one above 0."""
    return is_tuple_of(value, 2, 2) and is_integer(value[0]) and is_integer(value[1]) and value[1] > 0
