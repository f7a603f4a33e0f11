"""Trees of gates, and the cells of a library that cover them.

Trees are told by lists of nodes, parts ahead of what holds them, the whole
tree last: a gate is (name, index of a part, ..), an input a tuple of itself
alone. Equal parts are one node.
"""

from chipfloor.checks import is_between, is_tuple_of, wrong_index
from chipfloor.errors import BadGates, BadLibrary

SIDES = {"not": 1, "nand": 2}
GREATEST_INPUT = 20
DEEPEST = 8
MOST_CELLS = 10
MOST_AREA = 100


def is_input(value):
    """Whether any value is an input of a tree of gates."""
    return is_between(value, 0, GREATEST_INPUT)


def is_open(value):
    """Whether any value is an input of a pattern."""
    return value is None


def is_tree(value, deep, is_leaf):
    """Whether any value is a tree, at most so many gates deep, of inputs for which is_leaf answers True."""
    if is_leaf(value):
        return True
    if deep == 0 or not is_tuple_of(value, 2, 3) or not isinstance(value[0], str):
        return False
    if SIDES.get(value[0]) != len(value) - 1:
        return False
    return all([is_tree(part, deep - 1, is_leaf) for part in value[1:]])


def check_gates(gates):
    """Raise BadGates for a value that is no tree of gates."""
    if not is_tree(gates, DEEPEST, is_input):
        raise BadGates("no tree of gates")


def check_library(library):
    """Raise BadLibrary for a value that is no library."""
    if not is_tuple_of(library, 0, MOST_CELLS):
        raise BadLibrary(None)
    index = wrong_index(library, is_cell)
    if index is not None:
        raise BadLibrary(index)


def is_cell(value):
    """Whether any value is (area, pattern)."""
    if not is_tuple_of(value, 2, 2) or not is_between(value[0], 0, MOST_AREA):
        return False
    return value[1] is not None and is_tree(value[1], DEEPEST, is_open)


def number_of(tree, numbers):
    """The number of a tree in a dict from nodes to numbers, to which it and its parts are added."""
    node = (tree,)
    if isinstance(tree, tuple):
        node = (tree[0],) + tuple([number_of(part, numbers) for part in tree[1:]])
    return numbers.setdefault(node, len(numbers))


def nodes_of(tree):
    """The list of the nodes of a tree."""
    numbers = {}
    number_of(tree, numbers)
    return list(numbers)


class Search:
    """The nodes of a tree, the cells (area, nodes of the pattern) for it, and what is known of their covers.

    Covers are known as (area, cover), or None if there is none: in best for
    each node so far, in fits for each (index of a cell, node of its pattern,
    node), where there is a tuple of the covers of what stands at the inputs.
    """

    def __init__(self, gates, library):
        self.nodes = nodes_of(gates)
        self.cells = [(area, nodes_of(pattern)) for area, pattern in library]
        self.best = []
        self.fits = {}


def best_cover(gates, library):
    """The least area of a cover of the tree and such a cover, None if there is none."""
    check_gates(gates)
    check_library(library)
    search = Search(gates, library)
    for number in range(len(search.nodes)):
        search.best.append(best_of_node(search, number))
    return search.best[-1]


def best_of_node(search, number):
    """The least (area, cover) of a node, all nodes before it being known."""
    node = search.nodes[number]
    if len(node) == 1:
        return (0, node[0])
    return cheapest([with_cell(search, cell, number) for cell in range(len(search.cells))])


def with_cell(search, cell, number):
    """The least (area, cover) of a node with a cell at its top, or None."""
    area, pattern = search.cells[cell]
    found = fit(search, cell, len(pattern) - 1, number)
    if found is None:
        return None
    return (area + found[0], (cell, found[1]))


def cheapest(options):
    """The first one of the options with the least area, None if all are None."""
    return min([option for option in options if option is not None], key=lambda option: option[0], default=None)


def fit(search, cell, top, number):
    """The least (area, covers) of what stands at the inputs if a node of a cell's pattern is upon one of the tree."""
    key = (cell, top, number)
    if key not in search.fits:
        search.fits[key] = new_fit(search, cell, search.cells[cell][1][top], number)
    return search.fits[key]


def new_fit(search, cell, shape, number):
    """The same for a shape, a node of the pattern itself, if it is not known yet."""
    node = search.nodes[number]
    if shape[0] is None:
        return with_open_input(search.best[number])
    if shape[0] != node[0]:
        return None
    sides = node[1:]
    return cheapest([fit_sides(search, cell, shape[1:], way) for way in (sides, sides[::-1])])


def with_open_input(best):
    """The (area, covers) of an input of a pattern at a node with this (area, cover)."""
    if best is None:
        return None
    return (best[0], (best[1],))


def fit_sides(search, cell, tops, numbers):
    """The least (area, covers) if nodes of the pattern are upon as many of the tree, one by one."""
    area = 0
    covers = ()
    for top, number in zip(tops, numbers):
        found = fit(search, cell, top, number)
        if found is None:
            return None
        area += found[0]
        covers = covers + found[1]
    return (area, covers)


def least_area(gates, library):
    """The least area of a cover, None if there is none."""
    found = best_cover(gates, library)
    if found is None:
        return None
    return found[0]


def least_cover(gates, library):
    """A cover with the least area, None if there is none."""
    found = best_cover(gates, library)
    if found is None:
        return None
    return found[1]


def table(gates):
    """The ascending tuple of the inputs, and the tuple of the values for all values of the inputs."""
    check_gates(gates)
    nodes = nodes_of(gates)
    inputs = sorted([node[0] for node in nodes if len(node) == 1])
    rows = 1 << len(inputs)
    # A column is a number whose digits to the base 2 are the values of a node, one for each row.
    columns = []
    for node in nodes:
        if len(node) == 1:
            columns.append(column_of_input(inputs.index(node[0]), rows))
        else:
            columns.append(column_of_gate([columns[number] for number in node[1:]], rows))
    last = columns[-1]
    return (tuple(inputs), tuple([int(digit) for digit in f"{last:b}".zfill(rows)]))


def column_of_input(place, rows):
    """The column of the input at a place: so many times, half of the rows are 0, the other half 1, by turns."""
    run = rows >> (place + 1)
    column = (1 << run) - 1
    done = 2 * run
    while done < rows:
        column |= column << done
        done = 2 * done
    return column


def column_of_gate(columns, rows):
    """The column of a gate, 0 where all that is at its inputs is 1."""
    full = (1 << rows) - 1
    both = full
    for column in columns:
        both &= column
    return full ^ both


def count_gates(gates):
    """How many gates a tree has."""
    check_gates(gates)
    return count_in(gates)


def count_in(gates):
    """The same for what is known to be right."""
    if not isinstance(gates, tuple):
        return 0
    return 1 + sum([count_in(part) for part in gates[1:]])
