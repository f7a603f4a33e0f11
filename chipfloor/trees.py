"""Trees of wires: level and upright ways that join pins."""

from chipfloor.checks import is_tuple_of
from chipfloor.errors import BadPins, BadTree
from chipfloor.points import MOST_POINTS, distance, is_point


def check_pins(pins):
    """Raise BadPins for a value that is no pins."""
    if not is_tuple_of(pins, 1, MOST_POINTS):
        raise BadPins(None)
    for index, pin in enumerate(pins):
        if not is_point(pin) or pin in pins[:index]:
            raise BadPins(index)


def half_box(pins):
    """Half the way around the least box that holds all pins."""
    check_pins(pins)
    return length_across(pins) + reach([up for _, up in pins])


def length_across(pins):
    """How far the pins reach across."""
    return reach([across for across, _ in pins])


def reach(places):
    """The greatest less the least place."""
    return max(places) - min(places)


def spanning(pins):
    """The least length of pairs that join all pins, and such pairs."""
    check_pins(pins)
    length = 0
    pairs = []
    joined = [0]
    while len(joined) < len(pins):
        apart = [index for index in range(len(pins)) if index not in joined]
        step, near, far = min([(distance(pins[one], pins[other]), one, other) for one in joined for other in apart])
        length += step
        pairs.append((min(near, far), max(near, far)))
        joined.append(far)
    return (length, tuple(sorted(pairs)))


def trunk(pins):
    """The least (length, row) of a level way with an upright one to the pins of each column."""
    check_pins(pins)
    return min([(trunk_length(pins, row), row) for _, row in pins])


def trunk_length(pins, row):
    """The length of a level way in a row and of the upright ones."""
    length = length_across(pins)
    for column in sorted(set([across for across, _ in pins])):
        length += reach([row] + [up for across, up in pins if across == column])
    return length


# A tree is (length, sides), the sides in any order. A group of pins is a number:
# its bits tell which pins are in it. Trees are grown from the least groups on:
# each group has a dict from crossings to a least tree that joins the pins of
# the group and the crossing.


def least_tree(pins):
    """The least length of sides that join all pins, and such sides."""
    check_pins(pins)
    columns = sorted(set([across for across, _ in pins]))
    rows = sorted(set([up for _, up in pins]))
    first, others = pins[0], pins[1:]
    whole = (1 << len(others)) - 1
    grown = {0: {first: (0, ())}}
    for group in range(1, whole + 1):
        grown[group] = spread(seeds_of(group, others, grown), columns, rows)
    length, sides = grown[whole][first]
    return (length, tuple(sorted(sides)))


def seeds_of(group, others, grown):
    """The least trees of a group in which a pin alone or two trees of lesser groups end at the crossing."""
    if group & (group - 1) == 0:
        return {others[group.bit_length() - 1]: (0, ())}
    seeds = {}
    part = (group - 1) & group
    while part > 0:
        for crossing, (length, sides) in grown[part].items():
            more, further = grown[group - part][crossing]
            if crossing not in seeds or length + more < seeds[crossing][0]:
                seeds[crossing] = (length + more, sides + further)
        part = (part - 1) & group
    return seeds


def spread(seeds, columns, rows):
    """The least trees, one for each crossing, that go on from one of the seeds."""
    trees = {}
    for across in columns:
        for up in rows:
            crossing = (across, up)
            seed = min(list(seeds), key=lambda each: seeds[each][0] + distance(each, crossing))
            length, sides = seeds[seed]
            trees[crossing] = (length + distance(seed, crossing), sides + way(seed, crossing, columns, rows))
    return trees


def way(one, other, columns, rows):
    """The sides from one crossing to another one, first level, then upright."""
    level = [((left, one[1]), (right, one[1])) for left, right in steps(columns, one[0], other[0])]
    upright = [((other[0], low), (other[0], high)) for low, high in steps(rows, one[1], other[1])]
    return tuple(level + upright)


def steps(places, one, other):
    """The pairs of neighboring places, lesser ones first, between two of the places."""
    least, greatest = min(one, other), max(one, other)
    between = [place for place in places if least <= place <= greatest]
    return list(zip(between, between[1:]))


def is_wire_side(value):
    """Whether any value is a level or upright pair of points, the lesser one first."""
    if not is_tuple_of(value, 2, 2) or not is_point(value[0]) or not is_point(value[1]):
        return False
    return value[0] < value[1] and (value[0][0] == value[1][0] or value[0][1] == value[1][1])


def check_sides(sides):
    """Raise BadTree for a value that is no ascending tuple of sides."""
    if not isinstance(sides, tuple):
        raise BadTree(None)
    for index, side in enumerate(sides):
        if not is_wire_side(side) or (index > 0 and side <= sides[index - 1]):
            raise BadTree(index)


def length_of(sides):
    """The sum of the lengths of sides."""
    check_sides(sides)
    return sum([distance(one, other) for one, other in sides])


def does_join(pins, sides):
    """Whether all pins hang together by sides that share an end."""
    check_pins(pins)
    check_sides(sides)
    return are_all_in(pins, hanging_at(pins[0], sides))


def is_tree(pins, sides):
    """Whether the sides are a tree that joins all pins."""
    check_pins(pins)
    check_sides(sides)
    hanging = hanging_at(pins[0], sides)
    ends = [end for side in sides for end in side]
    return are_all_in(pins, hanging) and are_all_in(ends, hanging) and len(sides) == len(hanging) - 1


def are_all_in(points, hanging):
    """Whether all points are keys of a dict."""
    return all([point in hanging for point in points])


def hanging_at(pin, sides):
    """A dict with the points that hang together with a pin by sides that share an end, the pin itself too."""
    neighbors = {pin: []}
    for one, other in sides:
        neighbors.setdefault(one, []).append(other)
        neighbors.setdefault(other, []).append(one)
    hanging = {pin: True}
    waiting = [pin]
    while waiting:
        point = waiting.pop()
        for other in neighbors[point]:
            if other not in hanging:
                hanging[other] = True
                waiting.append(other)
    return hanging
