"""Mazes: free and blocked places, and the best wires through them, in one layer or in two."""

from heapq import heappop, heappush

from chipfloor.checks import check_number, is_between, is_tuple_of
from chipfloor.errors import BadMaze, BadPlace

LONGEST = 12
MOST_PAIRS = 12
HIGHEST_PRICE = 20

# The steps to the places beside one: the layer in which a wire of two layers
# may take it, and by how much row and column change; lesser places first.
STEPS = ((1, -1, 0), (0, 0, -1), (0, 0, 1), (1, 1, 0))
NO_STEP = -1


def is_maze(value):
    """Whether any value is a maze."""
    if not is_tuple_of(value, 1, LONGEST) or not is_tuple_of(value[0], 1, LONGEST):
        return False
    wide = len(value[0])
    return all([is_tuple_of(row, wide, wide) and all([is_between(item, 0, 1) for item in row]) for row in value])


def is_free(maze, value):
    """Whether any value is a free place of the maze."""
    if not is_tuple_of(value, 2, 2) or not is_between(value[0], 0, len(maze) - 1):
        return False
    return is_between(value[1], 0, len(maze[0]) - 1) and maze[value[0]][value[1]] == 0


def check_ends(maze, one, other):
    """Raise BadMaze or BadPlace for values that are no maze and two free places."""
    if not is_maze(maze):
        raise BadMaze("no maze")
    if not is_free(maze, one) or not is_free(maze, other):
        raise BadPlace("no free place")


def beside(place):
    """The list of the places beside one, in the maze or not, in ascending order, as the steps are."""
    return [(place[0] + down, place[1] + right) for _, down, right in STEPS]


def shortest(maze, one, other):
    """The least one of the wires with the fewest steps, None if there is none."""
    check_ends(maze, one, other)
    return shortest_wire(maze, one, other)


def shortest_wire(maze, one, other):
    """The same for what is known to be right."""
    steps = steps_to(maze, other)
    if one not in steps:
        return None
    wire = (one,)
    while wire[-1] != other:
        left = steps[wire[-1]]
        nearer = [place for place in beside(wire[-1]) if steps.get(place) == left - 1]
        wire = wire + (nearer[0],)
    return wire


def steps_to(maze, end):
    """The dict from the places from which a wire leads to the end to their fewest steps."""
    steps = {end: 0}
    waiting = [end]
    while waiting:
        further = []
        for place in waiting:
            for other in beside(place):
                if other not in steps and is_free(maze, other):
                    steps[other] = steps[place] + 1
                    further.append(other)
        waiting = further
    return steps


def fewest_bends(maze, one, other):
    """The least (bends, steps) of a wire, None if there is none."""
    check_ends(maze, one, other)
    # Where a wire may go, and at how many bends, depends on its place and its last step.
    found = cheapest((0, 0), (one, NO_STEP), lambda cost, state: bent_steps(maze, cost, state))
    return min([least for (place, _), (least, _) in found.items() if place == other], default=None)


def bent_steps(maze, cost, state):
    """The list of ((bends, steps), (place, last step)) one step further."""
    bends, steps = cost
    place, last = state
    further = []
    for step, nearby in enumerate(beside(place)):
        if is_free(maze, nearby):
            bend = 0 if last in (step, NO_STEP) else 1
            further.append(((bends + bend, steps + 1), (nearby, step)))
    return further


def cheapest(cost, start, onward):
    """The dict from all states that can be reached from the start, at a cost, to (least cost, the state before).

    onward(cost, state) lists the costs and states that follow one, at no lower
    costs. The start is its own state before.
    """
    found = {}
    queue = [(cost, start, start)]
    while queue:
        least, state, before = heappop(queue)
        if state not in found:
            found[state] = (least, before)
            for further, behind in onward(least, state):
                heappush(queue, (further, behind, state))
    return found


def two_layers(maze, over, one, other, via):
    """The least cost of a wire that goes level in one maze and upright in another one, and such a wire."""
    check_ends(maze, one, other)
    if not is_maze(over) or len(over) != len(maze) or len(over[0]) != len(maze[0]):
        raise BadMaze("no maze of the same size")
    check_number(via, 0, HIGHEST_PRICE)
    mazes = (maze, over)
    found = cheapest(0, (one, 0), lambda cost, state: layer_steps(mazes, via, cost, state))
    if (other, 0) not in found:
        return None
    return (found[(other, 0)][0], wire_to((other, 0), found))


def layer_steps(mazes, via, cost, state):
    """The list of (cost, (place, layer)) one step or one change of layers further."""
    place, layer = state
    further = []
    if is_free(mazes[1 - layer], place):
        further.append((cost + via, (place, 1 - layer)))
    for (kind, _, _), nearby in zip(STEPS, beside(place)):
        if kind == layer and is_free(mazes[layer], nearby):
            further.append((cost + 1, (nearby, layer)))
    return further


def wire_to(end, found):
    """The tuple of the states from the start to an end, by what cheapest has found."""
    wire = (end,)
    while found[wire[0]][1] != wire[0]:
        wire = (found[wire[0]][1],) + wire
    return wire


def routed(maze, pairs):
    """The list of the shortest wires of pairs, one after another, each None if those before leave no way."""
    if not is_maze(maze):
        raise BadMaze("no maze")
    if not is_tuple_of(pairs, 0, MOST_PAIRS) or not all([is_pair(maze, pair) for pair in pairs]):
        raise BadPlace("no pairs of free places")
    found = []
    for one, other in pairs:
        wire = None
        if is_free(maze, one) and is_free(maze, other):
            wire = shortest_wire(maze, one, other)
        if wire is not None:
            maze = with_blocked(maze, wire)
        found.append(wire)
    return found


def is_pair(maze, value):
    """Whether any value is a pair of free places."""
    return is_tuple_of(value, 2, 2) and is_free(maze, value[0]) and is_free(maze, value[1])


def with_blocked(maze, places):
    """The maze with some places blocked."""
    return tuple([tuple([1 if (row, column) in places else item for column, item in enumerate(items)])
                  for row, items in enumerate(maze)])
