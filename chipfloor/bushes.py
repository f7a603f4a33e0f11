"""Packings told by bushes: each block holds one beside it and one above it."""

from itertools import permutations

from chipfloor.checks import is_between, is_tuple_of
from chipfloor.errors import BadBush
from chipfloor.spots import area_of, check_few_sizes, check_packing, check_sizes, do_share, end_of, in_block_order


def check_bush(bush, many):
    """Raise BadBush for a value that is no bush with each of so many blocks once."""
    found = []
    waiting = [bush]
    # Each part that is looked into has a new block, so this ends soon for any value.
    while waiting:
        part = waiting.pop()
        if part is None:
            continue
        if not is_tuple_of(part, 3, 3) or not is_between(part[0], 0, many - 1) or part[0] in found:
            raise BadBush("no bush in which each block stands once")
        found.append(part[0])
        waiting.extend(part[1:])
    if len(found) < many:
        raise BadBush("a block is lacking")


def packed_bush(sizes, bush):
    """The tuple of the spots of the blocks that a bush tells."""
    check_sizes(sizes)
    check_bush(bush, len(sizes))
    return spots_of_bush(sizes, bush)


def spots_of_bush(sizes, bush):
    """The tuple of the spots, walking the bush: block, beside, above."""
    spots = {}
    waiting = [(0, bush)]
    while waiting:
        left, part = waiting.pop()
        if part is None:
            continue
        block, beside, above = part
        spots[block] = dropped(list(spots.values()), left, sizes[block])
        # What is put there last is taken first.
        waiting.append((left, above))
        waiting.append((end_of(spots[block], 0), beside))
    return in_block_order(spots)


def dropped(spots, left, size):
    """The spot of a block that is put upon the spots at a left place."""
    on_floor = (left, 0) + size
    low = max([end_of(spot, 1) for spot in spots if do_share(spot, on_floor, 0)], default=0)
    return (left, low) + size


def is_compact(spots):
    """Whether no block of a packing can be moved to the left or down."""
    check_packing(spots)
    return are_all_held(spots)


def are_all_held(spots):
    """Whether each spot begins at 0 or where another one ends, across and up."""
    return all([spot[axis] == 0 or holders(spots, spot, axis) != [] for spot in spots for axis in (0, 1)])


def holders(spots, spot, axis):
    """The blocks at which a spot ends its way towards 0 along an axis."""
    return [block for block, other in enumerate(spots)
            if end_of(other, axis) == spot[axis] and do_share(other, spot, 1 - axis)]


def bush_of(spots):
    """A bush with these spots, None for a packing that is not compact."""
    check_packing(spots)
    if not are_all_held(spots):
        return None
    hosts = [host_of(spots, spot) for spot in spots]
    return bush_upon(None, spots, hosts)


def host_of(spots, spot):
    """The lowest block at whose right end a spot begins, None for one that begins at 0."""
    if spot[0] == 0:
        return None
    return min(holders(spots, spot, 0), key=lambda block: spots[block][1])


def bush_upon(host, spots, hosts):
    """The bush of all blocks at the right end of a host, and of what stands at theirs."""
    guests = [block for block, each in enumerate(hosts) if each == host]
    bush = None
    # From the highest one down, as each one holds the next higher one above it.
    for block in sorted(guests, key=lambda guest: -spots[guest][1]):
        bush = (block, bush_upon(block, spots, hosts), bush)
    return bush


def best_bush(sizes):
    """The least area over all bushes, and a bush with it."""
    check_few_sizes(sizes)
    bushes = [bush for order in permutations(range(len(sizes))) for bush in bushes_of(order)]
    answers = [(area_of(spots_of_bush(sizes, bush)), bush) for bush in bushes]
    return min(answers, key=lambda answer: answer[0])


def bushes_of(order):
    """All bushes whose blocks the walk meets in this order."""
    if order == ():
        return [None]
    rest = order[1:]
    return [(order[0], beside, above)
            for at in range(len(rest) + 1)
            for beside in bushes_of(rest[:at])
            for above in bushes_of(rest[at:])]
