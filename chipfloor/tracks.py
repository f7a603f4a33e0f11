"""Tracks of a channel: things that shall stand on tracks, some of them in order, some of them apart."""

from chipfloor.checks import is_integer


class Demand:
    """Things, and for each one those that must be on earlier tracks and those that clash with it on one track.

    A thing is an integer, or a tuple of integers.
    """

    def __init__(self, things, uppers, clashes):
        self.things = things
        self.uppers = uppers
        self.clashes = clashes


def is_thing(demand, value):
    """Whether any value is one of the things."""
    # True == 1, so it could pass for a thing, or for a part of one.
    if isinstance(value, tuple):
        return all([is_integer(part) for part in value]) and value in demand.things
    return is_integer(value) and value in demand.things


def are_tracks(demand, value):
    """Whether any value is a tuple of tracks on which the things stand as is demanded."""
    if not isinstance(value, tuple) or not all([isinstance(track, tuple) for track in value]):
        return False
    found = [thing for track in value for thing in track]
    if len(found) != len(demand.things) or not all([is_thing(demand, thing) for thing in found]):
        return False
    rows = {thing: row for row, track in enumerate(value) for thing in track}
    if len(rows) < len(found) or not all([fits(demand, thing, track) for track in value for thing in track]):
        return False
    return all([rows[upper] < rows[thing] for thing in found for upper in demand.uppers[thing]])


def fits(demand, thing, track):
    """Whether a thing clashes with none on a track."""
    return not any([other in demand.clashes[thing] for other in track])


def held_back(demand, things):
    """Those of the things that must be on a later track than another one of them."""
    return [thing for thing in things if any([upper in things for upper in demand.uppers[thing]])]


def layers(demand):
    """The things by how many others must be on tracks before them at least, as far as no ring holds them back."""
    rows = []
    left = demand.things
    held = held_back(demand, left)
    while len(held) < len(left):
        rows.append([thing for thing in left if thing not in held])
        left = held
        held = held_back(demand, left)
    return rows


def ring_of(demand):
    """Things each of which must be on an earlier track than the next one, the first one being the last; or None."""
    layered = [thing for row in layers(demand) for thing in row]
    left = [thing for thing in demand.things if thing not in layered]
    if not left:
        return None
    # Each one that is left has another one that is left before it.
    way = [left[0]]
    while way[0] not in way[1:]:
        way = [upper for upper in demand.uppers[way[0]] if upper in left][:1] + way
    return tuple(way[:way.index(way[0], 1) + 1])


def least_tracks(demand):
    """As few tracks as can be, None if there is a ring.

    Each round goes one track further from all that the rounds before have left.
    """
    if ring_of(demand) is not None:
        return None
    tracks_until = {tuple(demand.things): ()}
    while () not in tracks_until:
        tracks_until = one_track_further(demand, tracks_until)
    return tracks_until[()]


def one_track_further(demand, tracks_until):
    """The same dict, from what is left to the tracks until then, with one more track."""
    further = {}
    for left, tracks in tracks_until.items():
        held = held_back(demand, left)
        for track in full_tracks(demand, [thing for thing in left if thing not in held]):
            further[tuple([thing for thing in left if thing not in track])] = tracks + (track,)
    return further


def full_tracks(demand, things):
    """All tracks of the things that have room for no other one of them: a thing is never late on an earlier track."""
    found = [()]
    for thing in things:
        found = found + [track + (thing,) for track in found if fits(demand, thing, track)]
    return [track for track in found
            if not any([other not in track and fits(demand, other, track) for other in things])]
