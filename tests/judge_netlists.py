"""What the document says of lists of devices, told again in another, slower way."""

from itertools import permutations

from chipfloor.errors import BadDevices
from tests.judge import ODD_VALUES

KINDS = ("and", "or", "not", "pass")
ONE = ("and", 2, (0, 1))
NO_LISTS = (None, True, False, 0, 1, "", "and", [], [ONE], {}, {ONE: 1}, (ONE,) * 9, (None,) * 9, BadDevices(0))
NO_DEVICES = ODD_VALUES + (
    ONE[:2], ONE + (0,), list(ONE), (ONE,), ("xor", 2, (0, 1)), ("AND", 2, (0, 1)), (0, 2, (0, 1)), (None, 2, (0,)),
    (("and",), 2, (0, 1)), (["and"], 2, (0,)), ({}, 2, (0,)), (True, 2, (0,)), ("", 2, (0,)),
    ("and", 13, (0, 1)), ("and", -1, (0, 1)), ("and", True, (0, 1)), ("and", None, (0, 1)), ("and", "2", (0,)),
    ("and", (2,), (0, 1)), ("and", 10 ** 30, (0,)), ("and", 2, ()), ("and", 2, (0, 1, 2, 3)), ("and", 2, [0, 1]),
    ("and", 2, 0), ("and", 2, "01"), ("and", 2, None), ("and", 2, {0: 1}), ("and", 2, (0, 13)), ("and", 2, (-1,)),
    ("and", 2, (0, True)), ("and", 2, (False,)), ("and", 2, (0, None)), ("and", 2, (0, "1")), ("and", 2, ((0,),)),
    ("and", 2, (0, 1, 10 ** 30)), ("not", 2, ()), ("pass", 13, (0,)))
# Values that are no tuple of known nets.
NO_KNOWN = tuple(value for value in ODD_VALUES if value != ()) + (
    [(0, 1)], {0: 1}, ((0, 1),) * 14, ((0,),), ((0, 1, 1),), ([0, 1],), ("01",), ((13, 0),), ((-1, 0),), ((0, 2),),
    ((0, -1),), ((True, 0),), ((0, True),), ((0, False),), ((0, None),), ((None, 1),), (("0", 1),), (((0,), 1),),
    ((0, 1), (0, 2)), ((0, 1), None), ((10 ** 30, 0),))


def random_devices(source, many, net_count, kinds=KINDS):
    return tuple((source.choice(kinds), source.randrange(net_count),
                  tuple(source.randrange(net_count) for _ in range(source.randint(1, 3)))) for _ in range(many))


def nets_of(devices):
    return sorted({output for _, output, _ in devices} | {net for _, _, inputs in devices for net in inputs})


def told(devices):
    """What stays of devices if they and their inputs are put in another order."""
    return sorted((kind, output, sorted(inputs)) for kind, output, inputs in devices)


def renamed(devices, names):
    return tuple((kind, names[output], tuple(names[net] for net in inputs)) for kind, output, inputs in devices)


def shuffled(source, devices):
    """The devices in another order, with other names and inputs in other orders, and the names."""
    names = dict(zip(range(13), source.sample(range(13), 13)))
    found = [(kind, output, tuple(source.sample(inputs, len(inputs)))) for kind, output, inputs in renamed(devices, names)]
    source.shuffle(found)
    return tuple(found), names


def are_same(one, other, pairs):
    """Whether pairs are what point 55 asks for."""
    names = dict(pairs)
    return (isinstance(pairs, tuple) and all(isinstance(pair, tuple) and len(pair) == 2 for pair in pairs)
            and list(pairs) == sorted(pairs) and [net for net, _ in pairs] == nets_of(one)
            and sorted(net for _, net in pairs) == nets_of(other) and told(renamed(one, names)) == told(other))


def can_be_same(one, other):
    """Whether any names make one list the other one."""
    nets, names = nets_of(one), nets_of(other)
    return len(nets) == len(names) and any(told(renamed(one, dict(zip(nets, order)))) == told(other)
                                           for order in permutations(names))


def driven(devices, net):
    return sum(output == net for _, output, _ in devices)


def input_times(devices, net):
    return sum(each == net for _, _, inputs in devices for each in inputs)


def plain_run(devices, known):
    values = {}
    for net, value in known:
        values[net] = value
    for _ in range(len(devices)):
        for kind, output, inputs in devices:
            if output in values or any(net not in values for net in inputs):
                continue
            ones = sum(values[net] for net in inputs)
            if kind == "and":
                values[output] = 1 if ones == len(inputs) else 0
            elif kind == "or":
                values[output] = 1 if ones > 0 else 0
            elif kind == "not":
                values[output] = 0 if values[inputs[0]] == 1 else 1
            else:
                values[output] = values[inputs[0]]
    return tuple((net, values[net]) for net in range(13) if net in values)
