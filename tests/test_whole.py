"""Point 1 over the whole program: any values as arguments, the order of errors, what calls leave alone."""

import copy
import importlib
import unittest
from math import gcd

from chipfloor.errors import BadMove, FloorError
from chipfloor.labs import Lab
from tests.test_interface import FUNCTIONS

BLOCKS = (((2, 1), (1, 2)), ((2, 1), (1, 3)))
SIZES = ((2, 1), (1, 3))
SPOTS = ((0, 0, 2, 1), (2, 0, 1, 3))
TOP, BOTTOM = (1, 0, 2, 0), (2, 1, 0, 3)
RING_TOP, RING_BOTTOM = (1, 2), (2, 1)
PINS = ((0, 1), (2, 1), (1, 0))
WIRES = (((3, 0), (3, 1), (5, 1), (5, 2)),)
SIDES = (((0, 1), (1, 1)), ((1, 0), (1, 1)), ((1, 1), (2, 1)))
NETS = ((0, 1), (1, 2), (0, 1, 2))
CELLS = ((3, 4, 1), (4, 4, 1))
MASK = (("metal", 0, 0, 4, 2), ("poly", 3, 0, 6, 4), ("cut", 4, 1, 5, 2), ("metal", 6, 3, 8, 4))
DEVICES = (("and", 2, (0, 1)), ("not", 3, (2,)))
RULES = ((0, 1, 5), (1, 2, -7))
BAD_RULES = ((0, 1, 5), (1, 2, 1), (2, 0, -5))
GATES = ("not", ("nand", 0, 1))
LIBRARY = ((1, ("not", None)), (2, ("nand", None, None)))
LOADS = ((0, 2, 4, 3, 50), (1, 1, 1, 1, 60))
DELAYS, CIRCUIT = (1, 2, 3), ((0, 1, 0), (1, 2, 0), (2, 0, 2))
MAZE = ((0, 0, 0), (0, 1, 0))

# Right arguments for each function of the interface.
SAMPLES = {
    "chipfloor.slices": {
        "is_normal": [((0, 1, "H", 2, "V"),)],
        "normal": [((0, 1, 2, "H", "H"),)],
        "all_words": [(2,)],
        "moves": [((0, 1, "H", 2, "V"),)],
        "moved": [((0, 1, "H", 2, "V"), ("turn", 2)), ((0, 1, "H"), ("swap", 0))],
        "road": [((0, 1, "H"), (1, 0, "V"))],
    },
    "chipfloor.shapes": {
        "curve_of": [(((2, 1), (1, 2)),)],
        "curve": [(BLOCKS, (0, 1, "V"))],
        "best": [(BLOCKS, (0, 1, "V"))],
        "size_of": [(BLOCKS, (0, 1, "V"), (0, 1))],
        "placed": [(BLOCKS, (0, 1, "V"), (0, 1))],
        "best_word": [(BLOCKS,)],
    },
    "chipfloor.packings": {
        "is_packing": [(SPOTS,)],
        "bounds": [(SPOTS,)],
        "packed": [(SIZES, (0, 1), (1, 0))],
        "critical": [(SIZES, (0, 1), (1, 0))],
        "orders_of": [(SPOTS,)],
        "best_packing": [(SIZES,)],
        "pattern": [((0, 1, 2, 3), (1, 3, 0, 2))],
        "slicing_of": [((0, 1, 2), (1, 0, 2))],
    },
    "chipfloor.bushes": {
        "packed_bush": [(SIZES, (0, None, (1, None, None)))],
        "is_compact": [(SPOTS,)],
        "bush_of": [(SPOTS,)],
        "best_bush": [(SIZES,)],
    },
    "chipfloor.channels": {
        "spans": [(TOP, BOTTOM)],
        "density": [(TOP, BOTTOM)],
        "above": [(TOP, BOTTOM)],
        "depth": [(TOP, BOTTOM)],
        "is_routing": [(TOP, BOTTOM, ((1,), (2, 3)))],
        "left_edge": [(TOP, BOTTOM)],
        "least_routing": [(TOP, BOTTOM)],
        "wire_length": [(TOP, BOTTOM, ((1,), (2, 3)))],
        "ring": [(RING_TOP, RING_BOTTOM), (TOP, BOTTOM)],
        "pieces": [(TOP, BOTTOM)],
        "is_bent_routing": [(TOP, BOTTOM, (((1, 0, 1),), ((2, 0, 2), (3, 3, 3))))],
        "least_bent_routing": [(TOP, BOTTOM), (RING_TOP, RING_BOTTOM)],
    },
    "chipfloor.rivers": {
        "river_height": [((0, 1), (1, 2))],
        "wires": [((0, 1), (1, 2))],
        "is_river": [((3,), (5,), 1, WIRES)],
        "shifts": [((0, 5), (0, 6), 1)],
        "best_shift": [((0, 5), (0, 6))],
    },
    "chipfloor.trees": {
        "half_box": [(PINS,)],
        "spanning": [(PINS,)],
        "trunk": [(PINS,)],
        "least_tree": [(PINS,)],
        "length_of": [(SIDES,)],
        "does_join": [(PINS, SIDES)],
        "is_tree": [(PINS, SIDES)],
    },
    "chipfloor.clocks": {
        "least_wire": [(PINS, (0, (1, 2)))],
        "placed": [(PINS, (0, (1, 2)))],
        "best_topology": [(PINS,)],
    },
    "chipfloor.cuts": {
        "cut": [(3, NETS, (0, 2))],
        "gains": [(3, NETS, (0, 2))],
        "least_cut": [(3, NETS, 1)],
        "better": [(3, NETS, (0, 2))],
        "best_by_passes": [(3, NETS, (0, 2))],
    },
    "chipfloor.rows": {
        "wire_length": [(3, NETS, (0, 2, 1))],
        "crossings": [(3, NETS, (0, 2, 1))],
        "least_length": [(3, NETS)],
        "least_width": [(3, NETS)],
        "legal": [(CELLS, 20)],
        "cost": [(CELLS, ((3, 2), (11, 2)))],
    },
    "chipfloor.masks": {
        "nets": [(MASK,)],
        "gates": [(MASK,)],
        "area": [(MASK, "metal")],
        "rim": [(MASK, "metal")],
        "too_near": [(MASK, "metal", 3)],
        "too_narrow": [(MASK, "metal", 2)],
        "bare_cuts": [(MASK, "poly", 1)],
    },
    "chipfloor.netlists": {
        "same": [(DEVICES, DEVICES[::-1])],
        "colors": [(DEVICES,)],
        "signature": [(DEVICES,)],
        "run": [(DEVICES, ((0, 1), (1, 1)))],
        "drivers": [(DEVICES,)],
    },
    "chipfloor.gaps": {
        "obeys": [(3, RULES, (0, 5, 0))],
        "leftmost": [(3, RULES)],
        "rightmost": [(3, RULES, 20)],
        "slacks": [(3, RULES, 20)],
        "tight_row": [(3, RULES)],
        "bad_ring": [(3, BAD_RULES), (3, RULES)],
    },
    "chipfloor.covers": {
        "least_area": [(GATES, LIBRARY)],
        "least_cover": [(GATES, LIBRARY)],
        "table": [(GATES,)],
        "count_gates": [(GATES,)],
    },
    "chipfloor.buffers": {
        "slack_of": [(LOADS, 10, (1, 2, 3), (1,))],
        "delay_to": [(LOADS, 10, 2)],
        "best_buffers": [(LOADS, 10, (1, 2, 3))],
    },
    "chipfloor.retimings": {
        "period": [(DELAYS, CIRCUIT)],
        "retimed": [(DELAYS, CIRCUIT, (0, 0, 1))],
        "lags_for": [(DELAYS, CIRCUIT, 3)],
        "least_period": [(DELAYS, CIRCUIT)],
        "ring_bound": [(DELAYS, CIRCUIT)],
    },
    "chipfloor.mazes": {
        "shortest": [(MAZE, (1, 0), (1, 2))],
        "fewest_bends": [(MAZE, (1, 0), (1, 2))],
        "two_layers": [(MAZE, MAZE, (1, 0), (1, 2), 3)],
        "routed": [(MAZE, (((1, 0), (0, 0)), ((0, 2), (1, 2))))],
    },
    "chipfloor.labs": {
        "replayed": [("put metal 0 0 4 2\nnets",)],
    },
}

# Those that take any value for their last argument.
ASKING = ("is_packing", "is_routing", "is_bent_routing", "is_river", "obeys")
ODD = (None, True, False, 0, 1, -1, 10 ** 30, "", "H", "metal", "nand", (), (0,), (None,), [], [0], {}, {0: 0}, ([],),
       ({},), BadMove("x"), Lab(), (Lab(),), (0, True), ("not", 0), ((0, 0), (0, 0)))
WRONG = {"wrong": [()]}


def samples():
    """All (name, function, right arguments)."""
    for file, functions in SAMPLES.items():
        for name, calls in functions.items():
            for arguments in calls:
                yield f"{file}.{name}", getattr(importlib.import_module(file), name), arguments


def changed(value, odd):
    """All values that are like a value but for one part, at any depth, in whose place odd stands."""
    yield odd
    if isinstance(value, tuple):
        for at, part in enumerate(value):
            for other in changed(part, odd):
                yield value[:at] + (other,) + value[at + 1:]
        yield value + (odd,)
        yield list(value)
        yield value[:-1]


def outcome(function, arguments):
    """What a call returns, or the error that it raises, told as a value."""
    try:
        result = function(*arguments)
    except FloorError as error:
        return ("error", error.__class__, error.args)
    if isinstance(result, Lab):
        return ("lab", result.mask, result.steps)
    return ("result", result)


def ratios_in(value):
    """All pairs of integers where a function answers with ratios."""
    if isinstance(value, (tuple, list)):
        if len(value) == 2 and all(part.__class__ is int for part in value):
            yield value
        for part in value:
            yield from ratios_in(part)


class Whole(unittest.TestCase):
    def test_all_functions_have_samples(self):
        self.assertEqual({file: set(functions) for file, functions in SAMPLES.items()},
                         {file: set(functions) for file, functions in FUNCTIONS.items()})

    def test_samples_are_right(self):
        for name, function, arguments in samples():
            self.assertNotEqual(outcome(function, arguments)[0], "error", name)

    def test_equal_arguments_have_equal_results(self):
        for name, function, arguments in samples():
            self.assertEqual(outcome(function, arguments), outcome(function, copy.deepcopy(arguments)), name)

    def test_lists_are_new(self):
        found = 0
        for name, function, arguments in samples():
            one, other = function(*arguments), function(*arguments)
            if isinstance(one, list):
                found += 1
                self.assertIsNot(one, other, name)
        self.assertGreaterEqual(found, 6)

    def test_any_values(self):
        for name, function, arguments in samples():
            for at, argument in enumerate(arguments):
                for odd in ODD:
                    for value in changed(argument, odd):
                        call = arguments[:at] + (value,) + arguments[at + 1:]
                        shown = repr(call)
                        kind = self.outcome_of(name, function, call)
                        self.assertEqual(repr(call), shown, name)
                        if at == len(arguments) - 1 and name.rpartition(".")[2] in ASKING:
                            self.assertEqual(kind[0], "result", (name, call))
                            self.assertIsInstance(kind[1], bool, (name, call))

    def outcome_of(self, name, function, call):
        try:
            return outcome(function, call)
        except Exception as error:
            self.fail(f"{name}{call!r} raises {error!r}")

    def test_errors_are_direct_subclasses(self):
        found = set()
        for name, function, arguments in samples():
            for at in range(len(arguments)):
                kind = outcome(function, arguments[:at] + (WRONG,) + arguments[at + 1:])
                if kind[0] == "error":
                    self.assertEqual(kind[1].__bases__, (FloorError,), name)
                    found.add(kind[1].__name__)
                else:
                    self.assertIn(name.rpartition(".")[2], ASKING)
        self.assertGreaterEqual(len(found), 24)

    def test_first_argument_first(self):
        for name, function, arguments in samples():
            for at in range(len(arguments)):
                # The second maze stands ahead of the places, but its errors are behind theirs.
                if not (name == "chipfloor.mazes.two_layers" and at == 1):
                    rest = len(arguments) - at - 1
                    alone = outcome(function, arguments[:at] + (WRONG,) + arguments[at + 1:])
                    self.assertEqual(outcome(function, arguments[:at] + (WRONG,) * (rest + 1)), alone, (name, at))

    def test_deep_values(self):
        deep = ()
        for _ in range(50000):
            deep = (deep, 0)
        for name, function, arguments in samples():
            for at, argument in enumerate(arguments):
                for value in list(changed(argument, deep)):
                    try:
                        function(*arguments[:at], value, *arguments[at + 1:])
                    except FloorError:
                        pass
                    except RecursionError:
                        self.fail(name)

    def test_ratios(self):
        found = 0
        for file, name in (("clocks", "least_wire"), ("clocks", "best_topology"), ("rows", "legal"), ("rows", "cost"),
                           ("retimings", "ring_bound")):
            for arguments in SAMPLES[f"chipfloor.{file}"][name]:
                answer = getattr(importlib.import_module(f"chipfloor.{file}"), name)(*arguments)
                for numerator, denominator in ratios_in(answer[0] if name == "best_topology" else answer):
                    found += 1
                    self.assertGreater(denominator, 0)
                    self.assertEqual(gcd(numerator, denominator), 1)
        self.assertGreaterEqual(found, 5)


if __name__ == "__main__":
    unittest.main()
