"""Gaps: rules that keep things apart, and the least and the greatest places that obey them.

Each thing is pushed up by rules, from 0 on. A push is (place, rules): how far,
and the indexes of the rules, one behind another, that push it there. Of as
many rules as there are things, two end at the same thing; so if some thing is
pushed further by so many rules than by fewer, they go around in a ring that
pushes without end. Otherwise no thing stands twice along the rules of a push,
and each rule has just its gap, as rules are added for a further place alone.
"""

from chipfloor.checks import check_number, is_between, is_tuple_of, wrong_index
from chipfloor.errors import BadGaps, HasRing

MOST_THINGS = 10
MOST_RULES = 40
GREATEST_GAP = 100
FARTHEST = 2000


def check_rules(many, rules):
    """Raise BadNumber or BadGaps for values that are no number of things and rules for them."""
    check_number(many, 1, MOST_THINGS)
    if not is_tuple_of(rules, 0, MOST_RULES):
        raise BadGaps(None)
    index = wrong_index(rules, lambda rule: is_rule(rule, many))
    if index is not None:
        raise BadGaps(index)


def is_rule(value, many):
    """Whether any value is (one, other, gap) of so many things."""
    if not is_tuple_of(value, 3, 3) or not is_between(value[2], -GREATEST_GAP, GREATEST_GAP):
        return False
    return is_between(value[0], 0, many - 1) and is_between(value[1], 0, many - 1)


def obeys(many, rules, places):
    """Whether any value is a tuple of places that obey the rules."""
    check_rules(many, rules)
    if not is_tuple_of(places, many, many) or not all([is_between(place, -FARTHEST, FARTHEST) for place in places]):
        return False
    return all([places[other] >= places[one] + gap for one, other, gap in rules])


def pushes_of(many, rules):
    """The list of the pushes of all things by fewer rules than there are things."""
    pushes = [(0, ())] * many
    for _ in range(many - 1):
        pushes = pushed(pushes, rules)
    return pushes


def pushed(pushes, rules):
    """The list of pushes by one rule more."""
    further = list(pushes)
    for index, (one, other, gap) in enumerate(rules):
        place, before = pushes[one]
        if place + gap > further[other][0]:
            further[other] = (place + gap, before + (index,))
    return further


def checked_pushes(many, rules):
    """The pushes, by rules that are right and have no ring."""
    check_rules(many, rules)
    pushes = pushes_of(many, rules)
    if pushed(pushes, rules) != pushes:
        raise HasRing("no places obey the rules")
    return pushes


def leftmost(many, rules):
    """The tuple of the least places of at least 0."""
    return tuple([place for place, _ in checked_pushes(many, rules)])


def rightmost(many, rules, room):
    """The tuple of the greatest places of at most a room, None if there is too little room."""
    return limits(many, rules, room)[1]


def slacks(many, rules, room):
    """The tuple of the greatest less the least places, None if there is too little room."""
    lefts, rights = limits(many, rules, room)
    if rights is None:
        return None
    return tuple([right - left for left, right in zip(lefts, rights)])


def limits(many, rules, room):
    """The least places, and the greatest ones or None."""
    lefts = leftmost(many, rules)
    check_number(room, 0, FARTHEST)
    if max(lefts) > room:
        return (lefts, None)
    # Seen from the other end of the room, each rule pushes its first thing.
    mirrored = tuple([(other, one, gap) for one, other, gap in rules])
    return (lefts, tuple([room - place for place, _ in pushes_of(many, mirrored)]))


def tight_row(many, rules):
    """Things from place 0 to the greatest place, each the next one's by a rule at just its gap."""
    pushes = checked_pushes(many, rules)
    last = max(list(range(many)), key=lambda thing: pushes[thing][0])
    return tuple(things_along(pushes[last][1], rules, last))


def things_along(indexes, rules, last):
    """The list of the things along rules that lead to the last one."""
    return [rules[index][0] for index in indexes] + [last]


def bad_ring(many, rules):
    """Indexes of rules that go around in a ring with a sum of gaps above 0, None if there are none."""
    check_rules(many, rules)
    pushes = pushes_of(many, rules)
    for thing, (place, indexes) in enumerate(pushed(pushes, rules)):
        if place > pushes[thing][0]:
            return ring_in(indexes, things_along(indexes, rules, thing))
    return None


def ring_in(indexes, things):
    """Those of the rules between two places of one thing among the things along them."""
    end = 1
    while things[end] not in things[:end]:
        end += 1
    return indexes[things.index(things[end]):end]
