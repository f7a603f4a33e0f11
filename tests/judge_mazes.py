"""What the document says of mazes, told again in another, slower way: by all wires that come to no place twice."""

from chipfloor.errors import BadMaze
from tests.judge import ODD_VALUES

NO_MAZES = ODD_VALUES + (
    ((),), ((), ()), ((0,), ()), ((0,), (0, 0)), ((0, 0), (0,)), ([0],), ((0,), [0]), ("00",), ("0", "0"), ((2,),),
    ((-1,),), ((True,),), ((0, False),), ((None,),), (("0",),), (((0,),),), ((0,), None), ((0,),) * 13, ((0,) * 13,),
    ((10 ** 30,),), [(0,)], {0: (0,)}, ((0, 0), (0, BadMaze("x"))))
# Values that are no place of any maze, or not one of two rows and three columns.
NO_PLACES = ODD_VALUES + (
    (0,), (0, 0, 0), [0, 0], "00", (-1, 0), (0, -1), (2, 0), (0, 3), (True, 0), (0, True), (False, 0), (0, False),
    (None, 0), (0, None), ("0", 0), ((0,), 0), (0, [0]), (0, 10 ** 30), (10 ** 30, 0), ((0, 0),), {0: 0, 1: 0})


def random_maze(source, rows, columns, blocked):
    return tuple(tuple(int(source.random() < blocked) for _ in range(columns)) for _ in range(rows))


def free_places(maze):
    return [(row, column) for row, items in enumerate(maze) for column, item in enumerate(items) if item == 0]


def neighbors(maze, place):
    row, column = place
    around = {(row + 1, column), (row - 1, column), (row, column + 1), (row, column - 1)}
    return around & set(free_places(maze))


def all_wires(maze, one, other):
    """All wires between two free places that come to no place twice."""
    found = []
    waiting = [(one,)]
    while waiting:
        wire = waiting.pop()
        if wire[-1] == other:
            found.append(wire)
        else:
            waiting.extend(wire + (place,) for place in neighbors(maze, wire[-1]) if place not in wire)
    return found


def plain_shortest(maze, one, other):
    return min(all_wires(maze, one, other), key=lambda wire: (len(wire), wire), default=None)


def bends(wire):
    steps = [(behind[0] - before[0], behind[1] - before[1]) for before, behind in zip(wire, wire[1:])]
    return sum(one != other for one, other in zip(steps, steps[1:]))


def plain_fewest_bends(maze, one, other):
    return min([(bends(wire), len(wire) - 1) for wire in all_wires(maze, one, other)], default=None)


def plain_routed(maze, pairs):
    """What routed answers, the shortest wires found by steps from one end."""
    found = []
    for one, other in pairs:
        wire = None
        if one in free_places(maze) and other in free_places(maze):
            wire = first_shortest(maze, one, other)
        found.append(wire)
        maze = tuple(tuple(int(item or (row, column) in (wire or ())) for column, item in enumerate(items))
                     for row, items in enumerate(maze))
    return found


def first_shortest(maze, one, other):
    """The least one of the shortest wires: of all wires of as many steps to each place, the least one is kept."""
    least = {one: (one,)}
    seen = {one}
    while least and other not in least:
        further = {}
        for wire in least.values():
            for place in neighbors(maze, wire[-1]) - seen:
                further[place] = min(further.get(place, wire + (place,)), wire + (place,))
        seen |= set(further)
        least = further
    return least.get(other)


def layer_steps(maze, over, via):
    """All (from, to, cost) between places of two layers."""
    found = []
    for layer, each in enumerate((maze, over)):
        for place in free_places(each):
            for other in neighbors(each, place):
                if (place[0] == other[0]) == (layer == 0):
                    found.append(((place, layer), (other, layer), 1))
    for place in set(free_places(maze)) & set(free_places(over)):
        found += [((place, 0), (place, 1), via), ((place, 1), (place, 0), via)]
    return found


def plain_layer_cost(maze, over, one, other, via):
    steps = layer_steps(maze, over, via)
    costs = {(one, 0): 0}
    changed = True
    while changed:
        changed = False
        for before, behind, cost in steps:
            if before in costs and costs[before] + cost < costs.get(behind, 10 ** 9):
                costs[behind] = costs[before] + cost
                changed = True
    return costs.get((other, 0))


def wire_cost(maze, over, via, wire):
    """The cost of a wire of two layers, None if it takes a step that there is not."""
    costs = {(before, behind): cost for before, behind, cost in layer_steps(maze, over, via)}
    if not all(pair in costs for pair in zip(wire, wire[1:])):
        return None
    return sum(costs[pair] for pair in zip(wire, wire[1:]))
