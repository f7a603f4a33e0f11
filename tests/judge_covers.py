"""What the document says of trees of gates and covers, told again in another, slower way."""

from itertools import product

from chipfloor.errors import BadGates
from tests.judge import ODD_VALUES


def deep(many, leaf, name="not"):
    """A tree so many gates deep."""
    tree = leaf
    for _ in range(many):
        tree = ("not", tree) if name == "not" else ("nand", leaf, tree)
    return tree


def full(many, leaves):
    """A tree of nands, so many deep everywhere, with the next one of leaves at each input."""
    if many == 0:
        return next(leaves)
    return ("nand", full(many - 1, leaves), full(many - 1, leaves))


# Values that are neither a tree nor a part of one, nor a pattern.
NO_TREES = tuple(value for value in ODD_VALUES if value is not None and (
    value.__class__ is not int or value not in range(21))) + (
    21, -1, 10 ** 30, True, False, "0", ("not",), ("nand",), ("nand", 0), ("not", 0, 1), ("nand", 0, 1, 2), ("and", 0, 1),
    ("or", 0, 1), ("NOT", 0), (0, 1), ("not", "0"), ("not", True), ("nand", 0, False), ["not", 0], ("not", [0]),
    (("not", 0),), ("not", ()), ("nand", 0, ("not",)), ("nand", ("not", 21), 0), (["not"], 0), ({}, 0, 1), (None, 0),
    ("not", BadGates("x")), ("", 0), ({"not": 1}, 0), {"not": 0}, b"not", ("not", -1), (("not",), 0))
NO_LISTS = (None, True, False, 0, 1, "", "ab", [], [(1, ("not", None))], {}, ((1, ("not", None)),) * 11, (None,) * 11,
            BadGates("x"))
NO_CELLS = ODD_VALUES + (
    (1,), (1, ("not", None), 0), [1, ("not", None)], (("not", None), 1), (-1, ("not", None)), (101, ("not", None)),
    (True, ("not", None)), (False, ("not", None)), ("1", ("not", None)), (None, ("not", None)), (1, None), (1, 0),
    (1, ("not", 0)), (1, ("nand", None, 5)), (1, deep(9, None)), (1, deep(9, None, "nand")), ((1,), ("not", None)),
    (10 ** 30, ("not", None))) + tuple((1, value) for value in NO_TREES)


def random_tree(source, most, leaves):
    """A tree at most so many gates deep."""
    if most == 0 or source.random() < 0.25:
        return source.choice(leaves)
    if source.random() < 0.4:
        return ("not", random_tree(source, most - 1, leaves))
    return ("nand", random_tree(source, most - 1, leaves), random_tree(source, most - 1, leaves))


def random_library(source, many, most):
    found = []
    while len(found) < many:
        pattern = random_tree(source, most, (None,))
        if pattern is not None:
            found.append((source.randint(0, 10), pattern))
    return tuple(found)


def ways(pattern, tree):
    """All lists of what stands at the inputs of a pattern upon a tree."""
    if pattern is None:
        return [[tree]]
    if not isinstance(tree, tuple) or tree[0] != pattern[0]:
        return []
    if pattern[0] == "not":
        return ways(pattern[1], tree[1])
    found = []
    for one, other in ((tree[1], tree[2]), (tree[2], tree[1])):
        found += [first + second for first in ways(pattern[1], one) for second in ways(pattern[2], other)]
    return found


def is_cover(cover, tree, library):
    """Whether a value is a cover of the tree."""
    if not isinstance(tree, tuple):
        return cover.__class__ is int and cover == tree
    if not isinstance(cover, tuple) or len(cover) != 2 or cover[0].__class__ is not int:
        return False
    index, parts = cover
    if not 0 <= index < len(library) or not isinstance(parts, tuple):
        return False
    return any(len(way) == len(parts) and all(is_cover(part, each, library) for part, each in zip(parts, way))
               for way in ways(library[index][1], tree))


def area_of(cover, library):
    if not isinstance(cover, tuple):
        return 0
    return library[cover[0]][0] + sum(area_of(part, library) for part in cover[1])


def plain_least_area(tree, library):
    if not isinstance(tree, tuple):
        return 0
    found = []
    for area, pattern in library:
        for way in ways(pattern, tree):
            parts = [plain_least_area(part, library) for part in way]
            if None not in parts:
                found.append(area + sum(parts))
    return min(found, default=None)


def inputs_of(tree):
    if not isinstance(tree, tuple):
        return {tree}
    return set().union(*[inputs_of(part) for part in tree[1:]])


def value_of(tree, values):
    if not isinstance(tree, tuple):
        return values[tree]
    return 0 if all(value_of(part, values) == 1 for part in tree[1:]) else 1


def plain_table(tree):
    inputs = tuple(sorted(inputs_of(tree)))
    return (inputs, tuple(value_of(tree, dict(zip(inputs, row))) for row in product((0, 1), repeat=len(inputs))))
