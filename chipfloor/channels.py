"""Channels: nets with pins above and below, and the tracks between on which they run."""

from chipfloor.checks import is_between, is_tuple_of, wrong_index
from chipfloor.errors import BadChannel, BadTracks, HasRing, TooMany
from chipfloor.tracks import Demand, are_tracks, layers, least_tracks, ring_of

MOST_COLUMNS = 16
GREATEST_NET = 9
MOST_PIECES = 12


def check_channel(top, bottom):
    """Raise BadChannel for values that are no pins above and below."""
    if not is_tuple_of(top, 1, MOST_COLUMNS) or not is_tuple_of(bottom, len(top), len(top)):
        raise BadChannel(None)
    index = wrong_index(list(zip(top, bottom)), is_column)
    if index is not None:
        raise BadChannel(index)


def is_column(pins):
    """Whether two values are the pins of a column."""
    return is_between(pins[0], 0, GREATEST_NET) and is_between(pins[1], 0, GREATEST_NET)


def columns_of(top, bottom):
    """The ascending dict from each net that has a pin to the ascending list of its columns."""
    columns = {}
    for net in sorted(set(top + bottom)):
        if net != 0:
            columns[net] = [column for column in range(len(top)) if net in (top[column], bottom[column])]
    return columns


def spans(top, bottom):
    """The ascending tuple of (net, first column, last column)."""
    check_channel(top, bottom)
    return spans_of(top, bottom)


def spans_of(top, bottom):
    """The same for what is known to be a channel."""
    return tuple([(net, columns[0], columns[-1]) for net, columns in columns_of(top, bottom).items()])


def does_hold(piece, column):
    """Whether a span, or a piece of one, holds a column."""
    return piece[1] <= column <= piece[2]


def do_meet(one, other):
    """Whether two spans, or pieces, hold a common column."""
    return one[1] <= other[2] and other[1] <= one[2]


def density(top, bottom):
    """The greatest number of nets whose spans hold one column."""
    check_channel(top, bottom)
    found = spans_of(top, bottom)
    return max([len([span for span in found if does_hold(span, column)]) for column in range(len(top))])


def above(top, bottom):
    """The ascending tuple of the pairs (upper, lower) of unlike nets that have the pins of a column."""
    check_channel(top, bottom)
    return pairs_of(top, bottom)


def pairs_of(top, bottom):
    """The same for what is known to be a channel."""
    return tuple(sorted(set([(upper, lower) for _, upper, lower in crowded(top, bottom)])))


def crowded(top, bottom):
    """The list of (column, upper net, lower net) for each column that has pins of unlike nets."""
    return [(column, top[column], bottom[column]) for column in range(len(top))
            if top[column] != bottom[column] and 0 not in (top[column], bottom[column])]


def depth(top, bottom):
    """The greatest number of nets of which each is above the next one."""
    demand = checked_demand(top, bottom)
    check_no_ring(demand)
    return len(layers(demand))


def checked_demand(top, bottom):
    """What the nets of a channel demand of their tracks."""
    check_channel(top, bottom)
    found = spans_of(top, bottom)
    pairs = pairs_of(top, bottom)
    uppers = {span[0]: [upper for upper, lower in pairs if lower == span[0]] for span in found}
    clashes = {span[0]: [other[0] for other in found if other != span and do_meet(span, other)] for span in found}
    return Demand([span[0] for span in found], uppers, clashes)


def check_no_ring(demand):
    """Raise HasRing if things are before one another in a ring."""
    if ring_of(demand) is not None:
        raise HasRing("nets are above one another in a ring")


def is_routing(top, bottom, tracks):
    """Whether any value is a routing of the channel."""
    return are_tracks(checked_demand(top, bottom), tracks)


def left_edge(top, bottom):
    """The tracks that are filled one by one from the left, whatever is above what."""
    check_channel(top, bottom)
    left = sorted([(first, last, net) for net, first, last in spans_of(top, bottom)])
    tracks = ()
    while left:
        filled = filled_from(left)
        left = [span for span in left if span not in filled]
        tracks = tracks + (tuple([net for _, _, net in filled]),)
    return tracks


def filled_from(left):
    """Those of the ordered (first, last, net) that one track takes, each behind the one before."""
    filled = []
    for span in left:
        if not filled or span[0] > filled[-1][1]:
            filled.append(span)
    return filled


def least_routing(top, bottom):
    """A routing with as few tracks as can be."""
    demand = checked_demand(top, bottom)
    check_no_ring(demand)
    return least_tracks(demand)


def wire_length(top, bottom, tracks):
    """The lengths of a routing: along the tracks, from the pins above to them, and from those below."""
    if not are_tracks(checked_demand(top, bottom), tracks):
        raise BadTracks("no routing of the channel")
    rows = {net: row for row, track in enumerate(tracks) for net in track}
    along = sum([last - first for _, first, last in spans_of(top, bottom)])
    down = sum([rows[net] + 1 for net in top if net != 0])
    up = sum([len(tracks) - rows[net] for net in bottom if net != 0])
    return (along, down, up)


def ring(top, bottom):
    """Nets each of which is above the next one, the last one being the first one again; None if there are none."""
    return ring_of(checked_demand(top, bottom))


def pieces(top, bottom):
    """The ascending tuple of the pieces (net, begin, end)."""
    check_channel(top, bottom)
    return pieces_of(top, bottom)


def pieces_of(top, bottom):
    """The same for what is known to be a channel."""
    found = []
    for net, columns in columns_of(top, bottom).items():
        # A net in one column alone goes from it to itself.
        ends = columns[1:] or columns
        found.extend([(net, begin, end) for begin, end in zip(columns, ends)])
    return tuple(found)


def checked_bent_demand(top, bottom):
    """What the pieces of a channel demand of their tracks."""
    check_channel(top, bottom)
    found = pieces_of(top, bottom)
    columns = crowded(top, bottom)
    uppers = {piece: [other for other in found if is_before(other, piece, columns)] for piece in found}
    clashes = {piece: [other for other in found if other[0] != piece[0] and do_meet(other, piece)] for piece in found}
    return Demand(list(found), uppers, clashes)


def is_before(one, other, columns):
    """Whether two pieces hold a column in which the net of one is above the net of the other."""
    return any([(upper, lower) == (one[0], other[0]) and does_hold(one, column) and does_hold(other, column)
                for column, upper, lower in columns])


def is_bent_routing(top, bottom, tracks):
    """Whether any value is a bent routing of the channel."""
    return are_tracks(checked_bent_demand(top, bottom), tracks)


def least_bent_routing(top, bottom):
    """A bent routing with as few tracks as can be, None if there is none."""
    demand = checked_bent_demand(top, bottom)
    if len(demand.things) > MOST_PIECES:
        raise TooMany(MOST_PIECES)
    return least_tracks(demand)
