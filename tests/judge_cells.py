"""What the document says of nets, cuts and rows of cells, told again in another, slower way."""

from fractions import Fraction
from itertools import combinations, permutations, product

from chipfloor.errors import BadNets
from tests.judge import ODD_VALUES

NO_COUNTS = tuple(value for value in ODD_VALUES if value.__class__ is not int or value not in range(1, 9)) + (9, -1)
NO_TWENTY = (None, True, False, 0, "", "ab", [], [(0, 1)], {}, {(0, 1): 1}, ((0, 1),) * 21, (None,) * 21, BadNets(0))
# Values that are no net of three cells, nor of fewer ones.
NO_NETS = ODD_VALUES + ((0,), (0, 0), (1, 0), (0, 1, 1), (0, 2, 1), (0, 3), (-1, 0), (0, 1, 2, 3), [0, 1], "01",
                        (0, True), (False, 1), ("0", "1"), (0, None), ((0,), 1), (0, [1]), {0: 0, 1: 1}, (0, 10 ** 30),
                        ((0, 1),))
# Values that are no side of two cells.
NO_SIDES = tuple(value for value in ODD_VALUES if value != ()) + (
    (0, 0), (1, 0), (0, 2), (2,), (-1,), (0, 1, 2), [0], [0, 1], "0", ("0",), (True,), (False,), (0, True), (None,),
    ((0,),), ([0],), (0, 10 ** 30), {0: 0})


def random_nets(source, many, most):
    if many == 1:
        return ()
    return tuple(tuple(sorted(source.sample(range(many), source.randint(2, min(many, 4)))))
                 for _ in range(source.randint(0, most)))


def random_side(source, many):
    return tuple(cell for cell in range(many) if source.randrange(2))


def all_sides(many):
    return [side for size in range(many + 1) for side in combinations(range(many), size)]


def plain_cut(nets, side):
    return sum(any(cell in side for cell in net) and any(cell not in side for cell in net) for net in nets)


def with_changed(side, *cells):
    return tuple(sorted(set(side) ^ set(cells)))


def plain_least_cut(many, nets, low):
    return min((plain_cut(nets, side), side) for side in all_sides(many)
               if 0 in side and len(side) >= low and many - len(side) >= low)


def plain_pass(many, nets, side):
    """The sides behind the swaps of a pass."""
    found = []
    done = set()
    while True:
        swaps = [(plain_cut(nets, with_changed(side, one, other)) - plain_cut(nets, side), one, other)
                 for one in range(many) for other in range(many)
                 if one in side and other not in side and one not in done and other not in done]
        if not swaps:
            return found
        _, one, other = min(swaps)
        side = with_changed(side, one, other)
        done |= {one, other}
        found.append(side)


def plain_better(many, nets, side):
    best = side
    for each in plain_pass(many, nets, side):
        if plain_cut(nets, each) < plain_cut(nets, best):
            best = each
    return best


def plain_best(many, nets, side):
    behind = plain_better(many, nets, side)
    return side if behind == side else plain_best(many, nets, behind)


def plain_length(nets, order):
    return sum(max(order.index(cell) for cell in net) - min(order.index(cell) for cell in net) for net in nets)


def plain_crossings(nets, order):
    return tuple(sum(min(order.index(cell) for cell in net) < gap <= max(order.index(cell) for cell in net)
                     for net in nets) for gap in range(1, len(order)))


def plain_width(nets, order):
    return max(plain_crossings(nets, order), default=0)


def least_over_orders(many, nets, measure):
    return min(measure(nets, order) for order in permutations(range(many)))


def plain_cost(cells, places):
    """Of places that are fractions."""
    return sum((weight * (place - wanted) ** 2 for (wanted, _, weight), place in zip(cells, places)), Fraction(0))


def is_legal(cells, places, room):
    ends = [place + width for (_, width, _), place in zip(cells, places)]
    return all(end <= place for end, place in zip([0] + ends, places)) and all(end <= room for end in ends)


def plain_legal(cells, room):
    """The best legal one of all ways to let some cells touch their neighbors, or the ends of the room."""
    best = None
    befores = [sum(width for _, width, _ in cells[:at]) for at in range(len(cells))]
    spare = room - sum(width for _, width, _ in cells)
    for touches in product((False, True), repeat=len(cells) + 1):
        places = touching(cells, befores, spare, touches)
        if places is not None and is_legal(cells, places, room):
            if best is None or plain_cost(cells, places) < plain_cost(cells, best):
                best = places
    return tuple(best)


def touching(cells, befores, spare, touches):
    """The best places if each cell for which it is so touches the thing before it; the last mark is the room's end."""
    groups = [[]]
    for at, touch in enumerate(touches[:-1]):
        if touch:
            groups[-1].append(at)
        else:
            groups.append([at])
    if touches[-1] and len(groups) == 1 and spare > 0:
        return None
    places = []
    for number, group in enumerate(groups):
        if number == 0:
            shift = Fraction(0)
        elif touches[-1] and number == len(groups) - 1:
            shift = Fraction(spare)
        else:
            shift = Fraction(sum(cells[at][2] * (cells[at][0] - befores[at]) for at in group),
                             sum(cells[at][2] for at in group))
        places.extend(shift + befores[at] for at in group)
    return places
