"""What the document says of masks, told again in another, slower way: by unit cells and by points."""

from itertools import product

from chipfloor.errors import BadMask
from tests.judge import ODD_VALUES

LAYERS = ("metal", "poly", "cut")
ONE = ("metal", 0, 0, 1, 1)
NO_MASKS = (None, True, False, 0, 1, "", "metal", [], [ONE], {}, {ONE: 1}, {0: ONE}, (ONE,) * 25, (None,) * 25, BadMask(0))
NO_LAYERS = ODD_VALUES + ("Metal", "METAL", "metal ", "cuts", "pol", ("metal",), ["metal"], {"metal": 1}, b"metal")
NO_BOXES = ODD_VALUES + (
    ONE[:4], ONE + (0,), list(ONE), "metal", (ONE,), ("gold", 0, 0, 1, 1), (0, 0, 0, 1, 1), (None, 0, 0, 1, 1),
    (("metal",), 0, 0, 1, 1), (["metal"], 0, 0, 1, 1), (True, 0, 0, 1, 1),
    ("metal", 1, 0, 1, 1), ("metal", 0, 1, 1, 1), ("metal", 2, 0, 1, 1), ("metal", 0, 2, 1, 1),
    ("metal", -1, 0, 1, 1), ("metal", 0, -1, 1, 1), ("metal", 0, 0, 61, 1), ("metal", 0, 0, 1, 61),
    ("metal", 60, 0, 60, 1), ("metal", 60, 0, 61, 1), ("metal", 0, 0, True, 1), ("metal", 0, 0, 1, True),
    ("metal", False, 0, 1, 1), ("metal", 0, False, 1, 1), ("metal", "0", 0, 1, 1), ("metal", 0, 0, 1, None),
    ("metal", 0, (0,), 1, 1), ("metal", 0, 0, [1], 1), ("metal", 0, 0, 10 ** 30, 1), ("metal", -10 ** 30, 0, 1, 1))


def random_mask(source, many, most):
    """Boxes within a square of most by most, not too large ones."""
    boxes = []
    for _ in range(many):
        left, low = source.randrange(most), source.randrange(most)
        right = source.randint(left + 1, min(most, left + source.choice((1, 2, 5))))
        high = source.randint(low + 1, min(most, low + source.choice((1, 2, 5))))
        boxes.append((source.choice(LAYERS), left, low, right, high))
    return tuple(boxes)


def cells(box):
    return set(product(range(box[1], box[3]), range(box[2], box[4])))


def edges(box):
    """The pieces, one unit long, of the sides: (place, height, level or not)."""
    _, left, low, right, high = box
    level = {(across, up, True) for across in range(left, right) for up in (low, high)}
    return level | {(across, up, False) for across in (left, right) for up in range(low, high)}


def do_overlap(one, other):
    return bool(cells(one) & cells(other))


def are_joined(one, other):
    if one[0] == other[0]:
        return do_overlap(one, other) or bool(edges(one) & edges(other))
    return "cut" in (one[0], other[0]) and do_overlap(one, other)


def plain_nets(mask):
    groups = [{index} for index in range(len(mask))]
    for one, other in product(range(len(mask)), repeat=2):
        if are_joined(mask[one], mask[other]):
            hit = [group for group in groups if one in group or other in group]
            groups = [group for group in groups if group not in hit] + [set().union(*hit)]
    return sorted(tuple(sorted(group)) for group in groups)


def plain_gates(mask):
    return tuple((one, other) for one in range(len(mask)) for other in range(len(mask))
                 if mask[one][0] == "poly" and mask[other][0] == "metal" and do_overlap(mask[one], mask[other]))


def covered(mask, layer):
    return set().union(*[cells(box) for box in mask if box[0] == layer])


def plain_area(mask, layer):
    return len(covered(mask, layer))


def plain_rim(mask, layer):
    found = covered(mask, layer)
    return sum((across + right, up + rise) not in found for across, up in found
               for right, rise in ((1, 0), (-1, 0), (0, 1), (0, -1)))


def points(box):
    return list(product(range(box[1], box[3] + 1), range(box[2], box[4] + 1)))


def square_apart(one, other):
    """The least square of the distance of two points of the boxes."""
    return min((a - c) ** 2 + (b - d) ** 2 for a, b in points(one) for c, d in points(other))


def plain_too_near(mask, layer, least):
    net_of = {index: net for net in plain_nets(mask) for index in net}
    return tuple((one, other) for one in range(len(mask)) for other in range(one + 1, len(mask))
                 if mask[one][0] == mask[other][0] == layer and net_of[one] != net_of[other]
                 and square_apart(mask[one], mask[other]) < least ** 2)


def plain_too_narrow(mask, layer, least):
    found = covered(mask, layer)
    wide = set()
    for across, up in found:
        square = set(product(range(across, across + least), range(up, up + least)))
        if square <= found:
            wide |= square
    return sorted(found - wide)


def plain_bare_cuts(mask, layer, margin):
    found = covered(mask, layer)
    return tuple(index for index, (kind, left, low, right, high) in enumerate(mask) if kind == "cut"
                 and not cells((kind, left - margin, low - margin, right + margin, high + margin)) <= found)
