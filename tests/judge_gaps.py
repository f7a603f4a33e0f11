"""What the document says of rules of gaps, told again in another, slower way."""

from chipfloor.errors import BadGaps
from tests.judge import ODD_VALUES

NO_COUNTS = tuple(value for value in ODD_VALUES if value.__class__ is not int or value not in range(1, 11)) + (
    11, -1, 0, True, False, "3", 10 ** 30)
NO_FORTY = (None, True, False, 0, 1, "", "ab", [], [(0, 1, 2)], {}, {(0, 1, 2): 1}, ((0, 1, 2),) * 41, (None,) * 41,
            BadGaps(0))
# Values that are no rule for three things, nor for fewer.
NO_RULES = ODD_VALUES + (
    (0, 1), (0, 1, 2, 3), [0, 1, 2], "012", (3, 1, 2), (0, 3, 2), (-1, 1, 2), (0, -1, 2), (0, 1, 101), (0, 1, -101),
    (True, 1, 2), (0, True, 2), (0, 1, True), (False, 1, 2), ("0", 1, 2), (0, None, 2), (0, 1, None), (0, 1, "2"),
    ((0,), 1, 2), (0, [1], 2), (0, 1, (2,)), (0, 1, 10 ** 30), (10 ** 30, 1, 2), ((0, 1, 2),))


def random_rules(source, many, most, least_gap, greatest_gap):
    return tuple((source.randrange(many), source.randrange(many), source.randint(least_gap, greatest_gap))
                 for _ in range(source.randint(0, most)))


def does_obey(rules, places):
    return all(places[other] - places[one] >= gap for one, other, gap in rules)


def plain_leftmost(many, rules):
    """The least places, None if things are pushed further than any rules can: a ring."""
    places = [0] * many
    while not does_obey(rules, places):
        for one, other, gap in rules:
            places[other] = max(places[other], places[one] + gap)
        if max(places) > 100 * many:
            return None
    return tuple(places)


def plain_rightmost(many, rules, room):
    """The greatest places of at most a room, for rules without a ring."""
    places = [room] * many
    while not does_obey(rules, places):
        for one, other, gap in rules:
            places[one] = min(places[one], places[other] - gap)
    return tuple(places)


def is_tight_row(many, rules, row):
    places = plain_leftmost(many, rules)
    return (isinstance(row, tuple) and len(row) > 0 and len(set(row)) == len(row)
            and all(thing.__class__ is int and 0 <= thing < many for thing in row)
            and places[row[0]] == 0 and places[row[-1]] == max(places)
            and all((one, other, places[other] - places[one]) in rules for one, other in zip(row, row[1:])))


def is_bad_ring(rules, indexes):
    if not isinstance(indexes, tuple) or len(indexes) == 0:
        return False
    if not all(index.__class__ is int and 0 <= index < len(rules) for index in indexes):
        return False
    ring = [rules[index] for index in indexes]
    return (all(before[1] == behind[0] for before, behind in zip(ring, ring[1:] + ring[:1]))
            and sum(gap for _, _, gap in ring) > 0)
