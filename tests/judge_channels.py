"""What the document says of channels, told again in another, slower way."""

from itertools import product


def random_channel(source, most_columns, most_net, share=70):
    """A channel in which so many of a hundred places have a pin, perhaps."""
    many = source.randint(1, most_columns)
    top, bottom = [tuple(source.randint(1, most_net) if source.randrange(100) < share else 0 for _ in range(many))
                   for _ in range(2)]
    return top, bottom


def all_channels(columns, most_net):
    rows = list(product(range(most_net + 1), repeat=columns))
    return [(top, bottom) for top in rows for bottom in rows]


def columns_with(top, bottom, net):
    return [column for column, pins in enumerate(zip(top, bottom)) if net in pins]


def nets_of(top, bottom):
    return [net for net in range(1, 10) if columns_with(top, bottom, net)]


def held(top, bottom, net):
    """The columns from the first to the last one of a net."""
    columns = columns_with(top, bottom, net)
    return set(range(columns[0], columns[-1] + 1))


def plain_spans(top, bottom):
    return tuple((net, min(held(top, bottom, net)), max(held(top, bottom, net))) for net in nets_of(top, bottom))


def plain_density(top, bottom):
    return max(sum(column in held(top, bottom, net) for net in nets_of(top, bottom)) for column in range(len(top)))


def plain_above(top, bottom):
    return tuple(sorted({(one, other) for one, other in zip(top, bottom) if one != other and one > 0 and other > 0}))


def all_chains(pairs, nets):
    """All rows of unlike nets of which each is above the next one."""
    found = [(net,) for net in nets]
    for chain in found:
        found.extend(chain + (lower,) for upper, lower in pairs if upper == chain[-1] and lower not in chain)
    return found


def has_plain_ring(top, bottom):
    pairs = plain_above(top, bottom)
    return any((chain[-1], chain[0]) in pairs for chain in all_chains(pairs, nets_of(top, bottom)))


def plain_depth(top, bottom):
    return max((len(chain) for chain in all_chains(plain_above(top, bottom), nets_of(top, bottom))), default=0)


def row_of(tracks, thing):
    return [thing in track for track in tracks].index(True)


def is_plain_routing(top, bottom, tracks):
    """Of a tuple of tuples of integers."""
    found = [net for track in tracks for net in track]
    if sorted(found) != nets_of(top, bottom):
        return False
    for track in tracks:
        columns = [column for net in track for column in held(top, bottom, net)]
        if len(columns) != len(set(columns)):
            return False
    return all(row_of(tracks, one) < row_of(tracks, other) for one, other in plain_above(top, bottom))


def as_tracks(things, rows, many):
    return tuple(tuple(thing for thing, row in zip(things, rows) if row == at) for at in range(many))


def least_rows(things, is_right, most):
    """The fewest tracks of things that are right, None if not even so many are enough; all ways are tried."""
    for many in range(most + 1):
        if any(is_right(as_tracks(things, rows, many)) for rows in product(range(many), repeat=len(things))):
            return many
    return None


def plain_pieces(top, bottom):
    found = []
    for net in nets_of(top, bottom):
        columns = columns_with(top, bottom, net)
        if len(columns) == 1:
            found.append((net, columns[0], columns[0]))
        found.extend((net, columns[at], columns[at + 1]) for at in range(len(columns) - 1))
    return tuple(sorted(found))


def is_plain_bent(top, bottom, tracks):
    """Of a tuple of tuples of tuples of integers."""
    found = [piece for track in tracks for piece in track]
    if tuple(sorted(found)) != plain_pieces(top, bottom):
        return False
    for track in tracks:
        for one in track:
            for other in track:
                if one[0] != other[0] and set(range(one[1], one[2] + 1)) & set(range(other[1], other[2] + 1)):
                    return False
    for column, (upper, lower) in enumerate(zip(top, bottom)):
        if 0 not in (upper, lower) and upper != lower:
            for one in found:
                for other in found:
                    if ((one[0], other[0]) == (upper, lower) and one[1] <= column <= one[2]
                            and other[1] <= column <= other[2] and row_of(tracks, one) >= row_of(tracks, other)):
                        return False
    return True


def plain_left_edge(top, bottom):
    left = [net for _, _, net in sorted((first, last, net) for net, first, last in plain_spans(top, bottom))]
    tracks = []
    while left:
        track = []
        following = left
        while following:
            track.append(following[0])
            end = max(held(top, bottom, following[0]))
            left = [net for net in left if net not in track]
            following = [net for net in left if min(held(top, bottom, net)) > end]
        tracks.append(tuple(track))
    return tuple(tracks)
