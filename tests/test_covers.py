"""Points 63 to 65: trees of gates, libraries, covers and tables."""

import unittest
from itertools import count, cycle
from random import Random

from chipfloor.covers import count_gates, least_area, least_cover, table
from chipfloor.errors import BadGates, BadLibrary
from tests import judge_covers as plain
from tests.helpers import FloorCase

OF_LIBRARIES = (least_area, least_cover)
ALONE = (table, count_gates)
LIBRARY = ((1, ("not", None)), (2, ("nand", None, None)), (2, ("not", ("nand", None, None))))
AND = ("not", ("nand", 0, 1))


class Gates(FloorCase):
    """Point 63."""

    def check_no_tree(self, value):
        for function in ALONE:
            self.check_error(BadGates, None, function, value)
        for library in (LIBRARY, (), None, (None,)):
            for function in OF_LIBRARIES:
                self.check_error(BadGates, None, function, value, library)

    def test_no_trees(self):
        for value in plain.NO_TREES + (None,):
            self.check_no_tree(value)
            self.check_no_tree(("not", value))
            self.check_no_tree(("nand", value, 0))
            self.check_no_tree(("nand", 0, value))

    def test_depth(self):
        for name in ("not", "nand"):
            self.assertEqual(count_gates(plain.deep(8, 3, name)), 8)
            self.check_no_tree(plain.deep(9, 3, name))
        self.check_no_tree(("nand", plain.deep(8, 3), 0))

    def test_very_deep_values(self):
        value = 0
        for _ in range(100000):
            value = ("not", value)
        for function in ALONE:
            with self.assertRaises(BadGates):
                function(value)
        with self.assertRaises(BadLibrary):
            least_area(0, ((1, value),))

    def test_no_libraries(self):
        for value in plain.NO_LISTS:
            for function in OF_LIBRARIES:
                self.check_error(BadLibrary, ("index", None), function, AND, value)
                self.check_error(BadLibrary, ("index", None), function, 0, value)

    def test_wrong_cells(self):
        for value in plain.NO_CELLS:
            for function in OF_LIBRARIES:
                self.check_error(BadLibrary, ("index", 0), function, AND, (value,))
                self.check_error(BadLibrary, ("index", 3), function, 0, LIBRARY + (value, value))
                self.check_error(BadLibrary, ("index", 9), function, AND, LIBRARY * 3 + (value,))

    def test_limits(self):
        library = ((100, ("not", None)),) * 9 + ((0, plain.deep(8, None)),)
        self.assertEqual(least_area(plain.deep(7, 20), library), 700)
        self.assertEqual(least_area(plain.deep(8, 20), library), 0)
        self.assertEqual(least_cover(plain.deep(8, 20), library), (9, (20,)))


class Covers(FloorCase):
    """Point 64."""

    def check_cover(self, gates, library):
        area = plain.plain_least_area(gates, library)
        cover = least_cover(gates, library)
        self.assertEqual(least_area(gates, library), area, (gates, library))
        if area is None:
            self.assertIsNone(cover, (gates, library))
        else:
            self.assertTrue(plain.is_cover(cover, gates, library), (gates, library, cover))
            self.assertEqual(plain.area_of(cover, library), area, (gates, library, cover))

    def test_example(self):
        self.assertEqual(least_area(AND, LIBRARY), 2)
        self.assertEqual(least_cover(("not", ("nand", 0, 0)), LIBRARY), (2, (0, 0)))

    def test_inputs(self):
        for library in ((), LIBRARY):
            for value in (0, 7, 20):
                self.assertEqual((least_area(value, library), least_cover(value, library)), (0, value))

    def test_no_cover(self):
        for gates, library in ((("not", 0), ()), (("not", 0), LIBRARY[1:]), (AND, LIBRARY[:1]), (AND, LIBRARY[1:2]),
                               (("nand", 0, AND), LIBRARY[2:]), (("nand", 0, 1), ((1, ("nand", None, ("not", None))),))):
            self.assertIsNone(least_area(gates, library))
            self.assertIsNone(least_cover(gates, library))

    def test_sides_in_either_order(self):
        library = ((3, ("nand", ("not", None), None)),)
        self.assertEqual(least_cover(("nand", ("not", 4), 5), library), (0, (4, 5)))
        self.assertEqual(least_cover(("nand", 5, ("not", 4)), library), (0, (4, 5)))
        library = ((3, ("nand", None, ("not", None))),)
        self.assertEqual(least_cover(("nand", ("not", 4), 5), library), (0, (5, 4)))
        self.assertEqual(least_cover(("nand", 5, ("not", 4)), library), (0, (5, 4)))

    def test_covers_from_left_to_right(self):
        library = ((0, ("not", None)), (1, ("nand", ("nand", None, None), ("not", None))))
        cover = least_cover(("nand", ("not", ("not", 9)), ("nand", ("not", 1), 2)), library)
        self.assertIn(cover, ((1, ((0, (1,)), 2, (0, (9,)))), (1, (2, (0, (1,)), (0, (9,))))))

    def test_large_cells_are_not_always_best(self):
        library = ((1, ("not", None)), (2, ("nand", None, None)), (9, ("not", ("nand", None, None))))
        self.assertEqual((least_area(AND, library), least_cover(AND, library)[0]), (3, 0))
        self.assertEqual(least_area(("not", AND), library), 4)

    def test_free_cells(self):
        self.assertEqual(least_area(AND, ((0, ("not", None)), (0, ("nand", None, None)))), 0)

    def test_best_order_of_sides(self):
        # The second one of two like gates is dearer below, so the pattern's deep side must take it.
        library = ((50, ("not", None)), (1, ("nand", None, None)), (1, ("nand", ("nand", None, ("not", None)), None)))
        gates = ("nand", ("nand", 0, 1), ("nand", 2, ("not", 3)))
        self.assertEqual(least_area(gates, library), 2)
        self.assertEqual(least_area(("nand", gates[2], gates[1]), library), 2)

    def test_random(self):
        source = Random(141)
        none = 0
        for _ in range(500):
            gates = plain.random_tree(source, 5, (0, 1, 2, 20))
            library = plain.random_library(source, source.randint(0, 6), source.choice((1, 2, 3)))
            if source.random() < 0.6:
                library = library[:4] + LIBRARY[:2]
            none += least_area(gates, library) is None
            self.check_cover(gates, library)
        self.assertTrue(50 < none < 400, none)

    def test_full_trees(self):
        gates = plain.full(8, cycle(range(21)))
        library = tuple((10 * many, plain.full(many, cycle([None]))) for many in range(1, 9))
        # A cell for the whole tree is the cheapest one, as any others are needed several times.
        self.assertEqual((least_area(gates, library), least_cover(gates, library)[0]), (80, 7))
        self.assertEqual(least_area(gates, library[:1]), 2550)
        self.assertTrue(plain.is_cover(least_cover(gates, library[:1]), gates, library[:1]))

    def test_equal_arguments_have_equal_results(self):
        self.assertEqual(least_cover(AND, LIBRARY), least_cover(("not", ("nand", 0, 1)), tuple(list(LIBRARY))))


class Tables(FloorCase):
    """Point 65."""

    def test_known_ones(self):
        self.assertEqual(table(("nand", 0, 3)), ((0, 3), (1, 1, 1, 0)))
        self.assertEqual(table(7), ((7,), (0, 1)))
        self.assertEqual(table(("not", 20)), ((20,), (1, 0)))
        self.assertEqual(table(("not", ("not", 20))), ((20,), (0, 1)))
        self.assertEqual(table(("nand", 5, 5)), ((5,), (1, 0)))
        self.assertEqual(table(("nand", 1, ("not", 1))), ((1,), (1, 1)))
        self.assertEqual(table(("nand", ("not", 9), 2)), ((2, 9), (1, 1, 0, 1)))
        self.assertEqual(table(("not", ("nand", 0, ("nand", 1, 2)))), ((0, 1, 2), (0, 0, 0, 0, 1, 1, 1, 0)))

    def test_random(self):
        source = Random(142)
        for _ in range(200):
            gates = plain.random_tree(source, source.randint(0, 8), source.choice(((0, 1), (3, 4, 5, 6), (20, 0, 7))))
            self.assertEqual(table(gates), plain.plain_table(gates), gates)

    def test_many_inputs(self):
        gates = plain.full(4, count(3))
        self.assertEqual(table(gates)[0], tuple(range(3, 19)))
        self.assertEqual(table(("not", gates[1])), plain.plain_table(("not", gates[1])))

    def test_all_inputs(self):
        gates = 20
        for value in range(7):
            gates = ("nand", gates, ("not", value)) if value % 2 else ("nand", value, gates)
        gates = ("nand", gates, plain.full(4, iter(list(range(7, 20)) + [20] * 3)))
        inputs, values = table(gates)
        self.assertEqual((inputs, len(values)), (tuple(range(21)), 2 ** 21))
        source = Random(143)
        for row in [0, 2 ** 21 - 1] + [source.randrange(2 ** 21) for _ in range(200)]:
            digits = {place: row >> (20 - place) & 1 for place in range(21)}
            self.assertEqual(values[row], plain.value_of(gates, digits), row)

    def test_count(self):
        self.assertEqual([count_gates(gates) for gates in (0, 20, ("not", 0), AND, ("nand", AND, AND))], [0, 0, 1, 2, 5])
        self.assertEqual(count_gates(plain.full(8, cycle([1]))), 255)


if __name__ == "__main__":
    unittest.main()
