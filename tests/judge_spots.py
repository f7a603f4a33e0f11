"""What the document says of packings, orders and bushes, told again in another, slower way."""

from itertools import permutations, product

from chipfloor.errors import BadSizes
from tests.judge import ODD_VALUES, have_common_point

# Values that are no tuple of 1 to 8 items.
NO_EIGHT = (None, True, False, 0, 1, 10 ** 30, "", "ab", [], [(0, 0, 1, 1)], [(1, 1)], {}, {(0, 0, 1, 1): 1}, (),
            ((0, 0, 1, 1),) * 9, ((1, 1),) * 9, (None,) * 9, BadSizes(0))
NO_SIZES = (None, True, 0, 5, "", "ab", "11", [], [1, 1], {}, (), (1,), (1, 1, 1), (0, 1), (1, 0), (-1, 1), (1, -1),
            (101, 1), (1, 101), (True, 1), (1, True), (False, 1), ("1", 1), (1, "1"), (None, 1), (1, None), ((1,), 1),
            (1, [1]), (1, 10 ** 30), BadSizes(0), (BadSizes(0), 1), ((1, 1),), ((1, 1), (1, 1)))
NO_SPOTS = (None, True, 0, 5, "", "0011", [], [0, 0, 1, 1], {}, (), (0,), (0, 0, 1), (0, 0, 1, 1, 1), (0, 0, (1, 1)),
            (-1, 0, 1, 1), (0, -1, 1, 1), (1001, 0, 1, 1), (0, 1001, 1, 1), (0, 0, 0, 1), (0, 0, 1, 0), (0, 0, 101, 1),
            (0, 0, 1, 101), (0, 0, -1, 1), (0, 0, 1, -1), (False, 0, 1, 1), (0, False, 1, 1), (0, 0, True, 1),
            (0, 0, 1, True), ("0", 0, 1, 1), (0, None, 1, 1), (0, 0, [1], 1), (0, 0, 1, (1,)), (0, 10 ** 30, 1, 1),
            BadSizes(0), ((0, 0, 1, 1),))


def random_sizes(source, many, most):
    return tuple((source.randint(1, most), source.randint(1, most)) for _ in range(many))


def random_order(source, many):
    return tuple(source.sample(range(many), many))


def random_packing(source, many, room, most):
    """Up to so many spots, put wherever there is room, with places below room and sides of at most so much."""
    spots = []
    for _ in range(4 * many):
        spot = (source.randrange(room), source.randrange(room), source.randint(1, most), source.randint(1, most))
        if len(spots) < many and not any(have_common_point(spot, other) for other in spots):
            spots.append(spot)
    return tuple(spots)


def all_packings(room, most):
    """All packings of 1 to so many spots within a square, each one with the spots in one order."""
    spots = [(left, low, width, height) for left, low in product(range(room), repeat=2)
             for width in range(1, room - left + 1) for height in range(1, room - low + 1)]
    found = [()]
    for spots_before in found:
        for spot in spots:
            if (len(spots_before) < most and (not spots_before or spot > spots_before[-1])
                    and not any(have_common_point(spot, other) for other in spots_before)):
                found.append(spots_before + (spot,))
    return found[1:]


def are_no_further(spots, others):
    """Whether no one of the spots is further to the right or up than that of the others."""
    return all(one[0] <= other[0] and one[1] <= other[1] for one, other in zip(spots, others))


def plain_bounds(spots):
    return (max(spot[0] + spot[2] for spot in spots), max(spot[1] + spot[3] for spot in spots))


def plain_area(spots):
    width, height = plain_bounds(spots)
    return width * height


def told(first, second):
    """The pairs of blocks of which one is left of the other, and those of which one is below the other."""
    pairs = [(one, other) for one in first for other in first
             if one != other and second.index(one) < second.index(other)]
    lefts = [pair for pair in pairs if first.index(pair[0]) < first.index(pair[1])]
    return lefts, [pair for pair in pairs if pair not in lefts]


def pushed(sizes, pairs, axis):
    """The least places by pairs of which one must end where the other one begins, pushed till all is well."""
    places = [0] * len(sizes)
    changed = True
    while changed:
        changed = False
        for one, other in pairs:
            if places[one] + sizes[one][axis] > places[other]:
                places[other] = places[one] + sizes[one][axis]
                changed = True
    return places


def plain_packed(sizes, first, second):
    lefts, belows = told(first, second)
    return tuple((left, low) + size
                 for left, low, size in zip(pushed(sizes, lefts, 0), pushed(sizes, belows, 1), sizes))


def least_by_orders(sizes):
    """The least area over all orders."""
    orders = list(permutations(range(len(sizes))))
    # The names of the blocks do not matter, so one order stands for all if the sizes are taken in all ways.
    return min(plain_area(plain_packed(mixed, orders[0], second))
               for mixed in sorted(set(permutations(sizes))) for second in orders)


def plain_pattern(first, second):
    at = range(len(first))
    found = [(i, j, k, m) for i in at for j in at for k in at for m in at if i < j < k < m
             and [block for block in second if block in (first[i], first[j], first[k], first[m])]
             in ([first[k], first[i], first[m], first[j]], [first[j], first[m], first[i], first[k]])]
    return min(found, default=None)


def plain_walk(bush):
    """The list of (block, block whose right end it begins at) in the order of the walk; None is the left end."""
    def walk(part, host):
        if part is None:
            return []
        block, beside, above = part
        return [(block, host)] + walk(beside, block) + walk(above, host)
    return walk(bush, None)


def plain_bush_spots(sizes, bush):
    spots = {}
    for block, host in plain_walk(bush):
        left = 0 if host is None else spots[host][0] + spots[host][2]
        low = 0
        while any(have_common_point((left, low) + sizes[block], (spot[0], 0, spot[2], spot[1] + spot[3]))
                  for spot in spots.values()):
            low += 1
        spots[block] = (left, low) + sizes[block]
    return tuple(spots[block] for block in range(len(sizes)))


def all_bushes(blocks):
    """All bushes of a tuple of blocks in any order."""
    if not blocks:
        return [None]
    found = []
    for block in blocks:
        rest = [other for other in blocks if other != block]
        for marks in product((0, 1), repeat=len(rest)):
            beside = tuple(other for other, mark in zip(rest, marks) if mark)
            above = tuple(other for other, mark in zip(rest, marks) if not mark)
            found.extend((block, one, other) for one in all_bushes(beside) for other in all_bushes(above))
    return found


def is_plain_bush(value, many):
    """Whether a value is a bush of so many blocks, each once, of what Python says it is."""
    def blocks(part):
        if part is None:
            return []
        return [part[0]] + blocks(part[1]) + blocks(part[2])

    def has_form(part):
        return part is None or (part.__class__ is tuple and len(part) == 3 and part[0].__class__ is int
                                and has_form(part[1]) and has_form(part[2]))
    return has_form(value) and sorted(blocks(value)) == list(range(many))


def can_move(spots, at, left, low):
    """Whether a spot can stand so much further to the left and down without leaving 0 or overlapping."""
    spot = (spots[at][0] - left, spots[at][1] - low) + spots[at][2:]
    return min(spot) >= 0 and not any(have_common_point(spot, other)
                                      for index, other in enumerate(spots) if index != at)


def is_plain_compact(spots):
    """Places and sides are integers, so what can be moved at all can be moved by one."""
    return not any(can_move(spots, at, *step) for at in range(len(spots)) for step in ((1, 0), (0, 1)))


def slid(source, spots):
    """The spots, moved to the left and down in steps of one till none can be moved."""
    spots = list(spots)
    steps = [(at, step) for at in range(len(spots)) for step in ((1, 0), (0, 1))]
    while not is_plain_compact(spots):
        source.shuffle(steps)
        for at, step in steps:
            while can_move(spots, at, *step):
                spots[at] = (spots[at][0] - step[0], spots[at][1] - step[1]) + spots[at][2:]
    return tuple(spots)


def is_plain_order(value, many):
    return value.__class__ is tuple and [item.__class__ for item in value] == [int] * many \
        and sorted(value) == list(range(many))


NO_ORDERS_OF_TWO = ODD_VALUES + ([0, 1], (0, 0), (1, 1), (0, 2), (1, 2), (-1, 0), (0, 1, 2), (0,), (0, True),
                                 (False, 1), ("0", "1"), (0, None), ((0,), (1,)), ([0], 1), (0, {}), "01",
                                 {0: 0, 1: 1}, (0, 10 ** 30))
