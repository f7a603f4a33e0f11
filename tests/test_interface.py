"""The interface: names, arguments, the files that define them, and the examples that it prints."""

import doctest
import importlib
import inspect
import os
import unittest

FUNCTIONS = {
    "chipfloor.slices": {
        "is_normal": ["word"],
        "normal": ["word"],
        "all_words": ["many"],
        "moves": ["word"],
        "moved": ["word", "move"],
        "road": ["one", "other"],
    },
    "chipfloor.shapes": {
        "curve_of": ["sizes"],
        "curve": ["blocks", "word"],
        "best": ["blocks", "word"],
        "size_of": ["blocks", "word", "choice"],
        "placed": ["blocks", "word", "choice"],
        "best_word": ["blocks"],
    },
    "chipfloor.packings": {
        "is_packing": ["value"],
        "bounds": ["spots"],
        "packed": ["sizes", "first", "second"],
        "critical": ["sizes", "first", "second"],
        "orders_of": ["spots"],
        "best_packing": ["sizes"],
        "pattern": ["first", "second"],
        "slicing_of": ["first", "second"],
    },
    "chipfloor.bushes": {
        "packed_bush": ["sizes", "bush"],
        "is_compact": ["spots"],
        "bush_of": ["spots"],
        "best_bush": ["sizes"],
    },
    "chipfloor.channels": {
        "spans": ["top", "bottom"],
        "density": ["top", "bottom"],
        "above": ["top", "bottom"],
        "depth": ["top", "bottom"],
        "is_routing": ["top", "bottom", "tracks"],
        "left_edge": ["top", "bottom"],
        "least_routing": ["top", "bottom"],
        "wire_length": ["top", "bottom", "tracks"],
        "ring": ["top", "bottom"],
        "pieces": ["top", "bottom"],
        "is_bent_routing": ["top", "bottom", "tracks"],
        "least_bent_routing": ["top", "bottom"],
    },
    "chipfloor.rivers": {
        "river_height": ["lows", "highs"],
        "wires": ["lows", "highs"],
        "is_river": ["lows", "highs", "height", "value"],
        "shifts": ["lows", "highs", "height"],
        "best_shift": ["lows", "highs"],
    },
    "chipfloor.trees": {
        "half_box": ["pins"],
        "spanning": ["pins"],
        "trunk": ["pins"],
        "least_tree": ["pins"],
        "length_of": ["sides"],
        "does_join": ["pins", "sides"],
        "is_tree": ["pins", "sides"],
    },
    "chipfloor.clocks": {
        "least_wire": ["ends", "topology"],
        "placed": ["ends", "topology"],
        "best_topology": ["ends"],
    },
    "chipfloor.cuts": {
        "cut": ["many", "nets", "side"],
        "gains": ["many", "nets", "side"],
        "least_cut": ["many", "nets", "low"],
        "better": ["many", "nets", "side"],
        "best_by_passes": ["many", "nets", "side"],
    },
    "chipfloor.rows": {
        "wire_length": ["many", "nets", "order"],
        "crossings": ["many", "nets", "order"],
        "least_length": ["many", "nets"],
        "least_width": ["many", "nets"],
        "legal": ["cells", "room"],
        "cost": ["cells", "places"],
    },
    "chipfloor.masks": {
        "nets": ["mask"],
        "gates": ["mask"],
        "area": ["mask", "layer"],
        "rim": ["mask", "layer"],
        "too_near": ["mask", "layer", "least"],
        "too_narrow": ["mask", "layer", "least"],
        "bare_cuts": ["mask", "layer", "margin"],
    },
    "chipfloor.netlists": {
        "same": ["one", "other"],
        "colors": ["devices"],
        "signature": ["devices"],
        "run": ["devices", "known"],
        "drivers": ["devices"],
    },
    "chipfloor.gaps": {
        "obeys": ["many", "rules", "places"],
        "leftmost": ["many", "rules"],
        "rightmost": ["many", "rules", "room"],
        "slacks": ["many", "rules", "room"],
        "tight_row": ["many", "rules"],
        "bad_ring": ["many", "rules"],
    },
    "chipfloor.covers": {
        "least_area": ["gates", "library"],
        "least_cover": ["gates", "library"],
        "table": ["gates"],
        "count_gates": ["gates"],
    },
    "chipfloor.buffers": {
        "slack_of": ["wires", "driver", "buffer", "spots"],
        "delay_to": ["wires", "driver", "node"],
        "best_buffers": ["wires", "driver", "buffer"],
    },
    "chipfloor.retimings": {
        "period": ["delays", "wires"],
        "retimed": ["delays", "wires", "lags"],
        "lags_for": ["delays", "wires", "goal"],
        "least_period": ["delays", "wires"],
        "ring_bound": ["delays", "wires"],
    },
    "chipfloor.mazes": {
        "shortest": ["maze", "one", "other"],
        "fewest_bends": ["maze", "one", "other"],
        "two_layers": ["maze", "over", "one", "other", "via"],
        "routed": ["maze", "pairs"],
    },
    "chipfloor.labs": {
        "replayed": ["text"],
    },
}

METHODS = {
    "run": ["self", "line"],
    "undo": ["self"],
    "redo": ["self"],
}

EXAMPLES = """
>>> from chipfloor.slices import moves, normal
>>> [normal((0, 1, 2, "H", "H")), moves((0, 1, "H"))]
[(0, 1, 'H', 2, 'H'), [('swap', 0), ('turn', 2)]]

>>> from chipfloor.shapes import curve, placed
>>> blocks = (((2, 1), (1, 2)), ((2, 1), (1, 2)))
>>> [curve(blocks, (0, 1, "V")), placed(blocks, (0, 1, "H"), (0, 1))]
[((2, 2), (4, 1)), ((0, 0, 2, 1), (0, 1, 1, 2))]

>>> from chipfloor.packings import best_packing, packed, pattern
>>> sizes = ((3, 2), (2, 3), (3, 2), (2, 3))
>>> [packed(((2, 1), (1, 3)), (0, 1), (0, 1)), best_packing(sizes)[0], pattern((0, 1, 2, 3), (1, 3, 0, 2))]
[((0, 0, 2, 1), (2, 0, 1, 3)), 25, (0, 1, 2, 3)]

>>> from chipfloor.clocks import least_wire
>>> from chipfloor.trees import least_tree, spanning
>>> pins = ((0, 1), (2, 1), (1, 0), (1, 2))
>>> [least_wire(((0, 0), (3, 0)), (0, 1)), least_tree(pins)[0], spanning(pins)[0]]
[((3, 1), (3, 2)), 4, 6]

>>> from chipfloor.rows import least_width, legal
>>> [legal(((3, 4, 1), (4, 4, 1)), 20), least_width(3, ((0, 1), (0, 2)))[0]]
[((3, 2), (11, 2)), 1]

>>> from chipfloor.covers import least_area, least_cover, table
>>> library = ((1, ("not", None)), (2, ("nand", None, None)), (2, ("not", ("nand", None, None))))
>>> tree = ("not", ("nand", 0, 1))
>>> [least_area(tree, library), least_cover(("not", ("nand", 0, 0)), library), table(("nand", 0, 3))]
[2, (2, (0, 0)), ((0, 3), (1, 1, 1, 0))]
"""


class Interface(unittest.TestCase):
    def test_functions_and_arguments(self):
        for file, functions in FUNCTIONS.items():
            module = importlib.import_module(file)
            for name, arguments in functions.items():
                with self.subTest(f"{file}.{name}"):
                    function = getattr(module, name)
                    self.assertTrue(inspect.isfunction(function))
                    self.assertEqual(function.__module__, file)
                    self.assertEqual(list(inspect.signature(function).parameters), arguments)

    def test_class_lab(self):
        module = importlib.import_module("chipfloor.labs")
        self.assertTrue(inspect.isclass(module.Lab))
        self.assertEqual(module.Lab.__module__, "chipfloor.labs")
        self.assertEqual(list(inspect.signature(module.Lab).parameters), [])
        for name, arguments in METHODS.items():
            method = vars(module.Lab)[name]
            self.assertTrue(inspect.isfunction(method))
            self.assertEqual(list(inspect.signature(method).parameters), arguments)
        for name in ("mask", "steps"):
            self.assertIsInstance(vars(module.Lab)[name], property)

    def run_examples(self, text, name):
        runner = doctest.DocTestRunner(verbose=False)
        test = doctest.DocTestParser().get_doctest(text, {}, name, name, 0)
        self.assertTrue(test.examples)
        self.assertEqual(runner.run(test).failed, 0)

    def test_examples_of_the_interface(self):
        self.run_examples(EXAMPLES, "interface")

    def test_examples_of_the_readme(self):
        path = os.path.join(os.path.dirname(os.path.dirname(os.path.abspath(__file__))), "README.md")
        with open(path, encoding="utf-8") as file:
            text = file.read()
        # The fences of Markdown would else be read as a part of what is printed.
        self.run_examples(text.replace("```", ""), "README.md")


if __name__ == "__main__":
    unittest.main()
