"""Lists of devices: whether two are the same but for names, and what their nets are worth."""

from itertools import permutations

from chipfloor.checks import is_between, is_tuple_of, wrong_index
from chipfloor.errors import BadDevices

KINDS = ("and", "or", "not", "pass")
MOST_DEVICES = 8
MOST_INPUTS = 3
GREATEST_NET = 12
NET_COUNT = 13


def check_devices(devices):
    """Raise BadDevices for a value that is no list of devices."""
    if not is_tuple_of(devices, 0, MOST_DEVICES):
        raise BadDevices(None)
    index = wrong_index(devices, is_device)
    if index is not None:
        raise BadDevices(index)


def is_device(value):
    """Whether any value is (kind, output, inputs)."""
    if not is_tuple_of(value, 3, 3) or not isinstance(value[0], str) or value[0] not in KINDS:
        return False
    return is_net(value[1]) and is_tuple_of(value[2], 1, MOST_INPUTS) and all([is_net(net) for net in value[2]])


def is_net(value):
    """Whether any value is a net."""
    return is_between(value, 0, GREATEST_NET)


def nets_of(devices):
    """The ascending list of the nets of devices."""
    return sorted(set([net for _, output, inputs in devices for net in (output,) + inputs]))


def driver_count(devices, net):
    """How many devices have a net as output."""
    return len([output for _, output, _ in devices if output == net])


def input_count(devices, net):
    """How many times a net stands among the inputs of devices."""
    return sum([inputs.count(net) for _, _, inputs in devices])


def same(one, other):
    """Pairs of nets of one and of other that make the devices of one those of other, None if there are none."""
    check_devices(one)
    check_devices(other)
    if signature_of(one) != signature_of(other):
        return None
    found = names_for(list(one), list(other), {}, (colors_of(one), colors_of(other)))
    if found is None:
        return None
    return tuple(sorted(found.items()))


def names_for(left, others, names, paints):
    """The dict of names with more, so that the devices that are left are the others; None if there is none.

    A net gets a name of its own color alone. The device with the fewest nets
    without a name comes first, as there are the fewest ways for it.
    """
    if not left:
        return names
    device = min(left, key=lambda each: len([net for net in terminals(each) if net not in names]))
    rest = list(left)
    rest.remove(device)
    for index, other in enumerate(others):
        for longer in ways_to_name(device, other, names, paints):
            found = names_for(rest, others[:index] + others[index + 1:], longer, paints)
            if found is not None:
                return found
    return None


def terminals(device):
    """The tuple of the output and the inputs of a device."""
    return (device[1],) + device[2]


def ways_to_name(device, other, names, paints):
    """The list of all dicts of the names with more that make a device another one, its inputs in any order."""
    if device[0] != other[0] or len(device[2]) != len(other[2]):
        return []
    inputs = list(device[2])
    ways = [with_names(names, (device[1],) + order, terminals(other), paints) for order in permutations(inputs)]
    return [way for way in ways if way is not None]


def with_names(names, ones, others, paints):
    """The dict of the names with others for ones, None if they do not fit."""
    longer = dict(names)
    for one, other in zip(ones, others):
        if paints[0][one] != paints[1][other] or longer.setdefault(one, other) != other:
            return None
    # No two nets get one name.
    if len(set(list(longer.values()))) < len(longer):
        return None
    return longer


def colors(devices):
    """The ascending tuple of (net, color), colors that do not depend on names and orders."""
    check_devices(devices)
    return tuple(sorted(colors_of(devices).items()))


def colors_of(devices):
    """The dict from nets to colors.

    Nets differ by how many devices drive them and how many inputs they are;
    then, again and again, by the colors of the nets at the same devices.
    """
    found = nets_of(devices)
    counts = {net: (driver_count(devices, net), input_count(devices, net)) for net in found}
    ranks = ranked(counts)
    for _ in found:
        ranks = ranked({net: (ranks[net], views_of(devices, net, ranks)) for net in found})
    most_inputs = MOST_DEVICES * MOST_INPUTS
    return {net: (counts[net][0] * (most_inputs + 1) + counts[net][1]) * NET_COUNT + ranks[net] for net in found}


def ranked(marks):
    """The dict from the keys of marks to the ranks of these among all unlike ones."""
    rank_of = {mark: rank for rank, mark in enumerate(sorted(set(list(marks.values()))))}
    return {key: rank_of[mark] for key, mark in marks.items()}


def views_of(devices, net, ranks):
    """The ascending tuple of how each device at a net is seen from there."""
    return tuple(sorted([view_of(device, net, ranks) for device in devices if net in terminals(device)]))


def view_of(device, net, ranks):
    """How a device is seen from a net: its kind, where the net stands, and the ranks of all its nets."""
    kind, output, inputs = device
    around = tuple(sorted([ranks[each] for each in inputs]))
    return (kind, output == net, inputs.count(net), ranks[output], around)


def signature(devices):
    """A value that does not depend on names and orders."""
    check_devices(devices)
    return signature_of(devices)


def signature_of(devices):
    """The same for what is known to be right: how many devices of each kind there are, and all colors."""
    kinds = [device[0] for device in devices]
    many = tuple([kinds.count(kind) for kind in KINDS])
    return (many, tuple(sorted(colors_of(devices).values())))


def run(devices, known):
    """The ascending tuple of all (net, value) that become known."""
    check_devices(devices)
    if not is_tuple_of(known, 0, NET_COUNT) or not all([is_known(pair) for pair in known]):
        raise BadDevices(None)
    found = dict(known)
    for _ in devices:
        for kind, output, inputs in devices:
            if output not in found and all([net in found for net in inputs]):
                found[output] = value_of(kind, [found[net] for net in inputs])
    return tuple(sorted(found.items()))


def is_known(value):
    """Whether any value is (net, 0 or 1)."""
    return is_tuple_of(value, 2, 2) and is_net(value[0]) and is_between(value[1], 0, 1)


def value_of(kind, values):
    """The value at the output of a device with values at its inputs."""
    if kind == "and":
        return min(values)
    if kind == "or":
        return max(values)
    if kind == "not":
        return 1 - values[0]
    return values[0]


def drivers(devices):
    """The ascending tuples of the nets that no device has as output, and of those that more than one has."""
    check_devices(devices)
    found = nets_of(devices)
    none = [net for net in found if driver_count(devices, net) == 0]
    several = [net for net in found if driver_count(devices, net) > 1]
    return (tuple(none), tuple(several))
