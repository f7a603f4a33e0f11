"""Points 44 to 47: orders of cells, and places of cells in a row."""

import unittest
from fractions import Fraction
from random import Random

from chipfloor.errors import BadNets, BadNumber, BadOrders, BadRow
from chipfloor.rows import cost, crossings, least_length, least_width, legal, wire_length
from tests import judge
from tests import judge_cells as plain
from tests import judge_spots
from tests.helpers import FloorCase

CHAIN = ((0, 1), (1, 2), (2, 3))
NO_ROWS = (None, True, False, 0, "", "abc", [], [(1, 1, 1)], {}, {0: (1, 1, 1)}, ((0, 1, 1),) * 9, (None,) * 9, BadRow(0))
NO_CELLS = judge.ODD_VALUES + (
    (0,), (0, 1), (0, 1, 1, 1), [0, 1, 1], "011", (-1, 1, 1), (201, 1, 1), (0, 0, 1), (0, 21, 1), (0, 1, 0), (0, 1, 21),
    (0, -1, 1), (0, 1, -1), (True, 1, 1), (False, 1, 1), (0, True, 1), (0, 1, True), ("0", 1, 1), (0, None, 1),
    (0, 1, (1,)), (0, [1], 1), (0, 1, 10 ** 30), ((0, 1, 1),))


def random_cells(source, many, most_place):
    return tuple((source.randint(0, most_place), source.randint(1, 20), source.randint(1, 20)) for _ in range(many))


def pairs(places):
    return tuple((place.numerator, place.denominator) for place in places)


class Orders(FloorCase):
    """Point 44, and the errors of point 45."""

    def check_all(self, kind, field, many, nets):
        for function in (wire_length, crossings):
            self.check_error(kind, field, function, many, nets, (0, 1, 2))
            self.check_error(kind, field, function, many, nets, None)
        for function in (least_length, least_width):
            self.check_error(kind, field, function, many, nets)

    def test_no_number_of_cells(self):
        for value in plain.NO_COUNTS:
            self.check_all(BadNumber, None, value, ())
            self.check_all(BadNumber, None, value, None)

    def test_no_nets(self):
        for value in plain.NO_TWENTY:
            self.check_all(BadNets, ("index", None), 3, value)
        for value in plain.NO_NETS:
            self.check_all(BadNets, ("index", 0), 3, (value,))
            self.check_all(BadNets, ("index", 2), 3, ((0, 1), (1, 2), value, value))

    def test_no_orders(self):
        for value in judge_spots.NO_ORDERS_OF_TWO:
            for function in (wire_length, crossings):
                self.check_error(BadOrders, None, function, 2, ((0, 1),), value)
                self.check_error(BadOrders, None, function, 2, (), value)
        for function in (wire_length, crossings):
            self.check_error(BadOrders, None, function, 1, (), ())
            self.check_error(BadOrders, None, function, 1, (), (False,))
            self.check_error(BadOrders, None, function, 8, (), tuple(range(1, 9)))

    def test_known_ones(self):
        self.assertEqual(wire_length(1, (), (0,)), 0)
        self.assertEqual(crossings(1, (), (0,)), ())
        self.assertEqual(wire_length(4, CHAIN, (0, 1, 2, 3)), 3)
        self.assertEqual(wire_length(4, CHAIN, (0, 2, 1, 3)), 5)
        self.assertEqual(crossings(4, CHAIN, (0, 1, 2, 3)), (1, 1, 1))
        self.assertEqual(crossings(4, CHAIN, (0, 2, 1, 3)), (1, 3, 1))
        self.assertEqual(crossings(3, (), (2, 1, 0)), (0, 0))
        self.assertEqual(wire_length(8, ((0, 3, 7),) * 20, tuple(range(8))), 140)

    def test_random(self):
        source = Random(101)
        for _ in range(300):
            many = source.randint(1, 8)
            nets, order = plain.random_nets(source, many, 20), tuple(source.sample(range(many), many))
            self.assertEqual(wire_length(many, nets, order), plain.plain_length(nets, order), (nets, order))
            self.assertEqual(crossings(many, nets, order), plain.plain_crossings(nets, order), (nets, order))


class LeastOrders(FloorCase):
    """Point 45."""

    def check_least(self, many, nets):
        for function, measure in ((least_length, plain.plain_length), (least_width, plain.plain_width)):
            answer = function(many, nets)
            self.assertIsInstance(answer, tuple)
            least, order = answer
            self.assertEqual(least, plain.least_over_orders(many, nets, measure), nets)
            self.assertTrue(judge_spots.is_plain_order(order, many), (nets, answer))
            self.assertEqual(measure(nets, order), least, (nets, answer))

    def test_known_ones(self):
        for function in (least_length, least_width):
            self.assertEqual(function(1, ()), (0, (0,)))
            self.assertEqual(function(3, ())[0], 0)
        self.assertEqual(least_width(3, ((0, 1), (0, 2)))[0], 1)
        self.assertEqual(least_length(3, ((0, 1), (0, 2)))[0], 2)
        self.assertEqual(least_length(8, (tuple(range(8)),) * 20)[0], 140)
        self.assertEqual(least_width(8, (tuple(range(8)),) * 20)[0], 20)

    def test_random(self):
        source = Random(102)
        for many, times in ((2, 10), (3, 20), (4, 20), (5, 10), (6, 4)):
            for _ in range(times):
                self.check_least(many, plain.random_nets(source, many, 10))

    def test_eight_cells(self):
        source = Random(103)
        order = tuple(source.sample(range(8), 8))
        nets = tuple(tuple(sorted(pair)) for pair in zip(order, order[1:]))
        self.assertEqual((least_length(8, nets)[0], least_width(8, nets)[0]), (7, 1))
        # A net from each cell to the next one leaves but these two ways.
        self.assertIn(least_length(8, nets)[1], (order, order[::-1]))
        self.assertIn(least_width(8, nets)[1], (order, order[::-1]))

    def test_equal_arguments_have_equal_results(self):
        for function in (least_length, least_width):
            self.assertEqual(function(4, CHAIN), function(4, tuple([tuple(list(net)) for net in CHAIN])))


class Legal(FloorCase):
    """Point 46."""

    def test_no_rows(self):
        for value in NO_ROWS:
            self.check_error(BadRow, ("index", None), legal, value, 400)
            self.check_error(BadRow, ("index", None), legal, value, None)
            self.check_error(BadRow, ("index", None), cost, value, ())
            self.check_error(BadRow, ("index", None), cost, value, None)

    def test_wrong_cells(self):
        for value in NO_CELLS:
            for cells, index in (((value,), 0), (((0, 1, 1), value, value), 1), (((0, 1, 1),) * 7 + (value,), 7)):
                self.check_error(BadRow, ("index", index), legal, cells, 400)
                self.check_error(BadRow, ("index", index), legal, cells, None)
                self.check_error(BadRow, ("index", index), cost, cells, ((0, 1),) * len(cells))
                self.check_error(BadRow, ("index", index), cost, cells, None)

    def test_wrong_room(self):
        cells = ((0, 3, 1), (0, 4, 1))
        for value in judge.ODD_VALUES + (6, 401, -7):
            self.check_error(BadNumber, None, legal, cells, value)
        self.check_error(BadNumber, None, legal, (), -1)
        self.check_error(BadNumber, None, legal, (), True)
        self.check_error(BadNumber, None, legal, (), 401)
        self.check_error(BadNumber, None, legal, ((0, 20, 1),) * 8, 159)

    def test_example(self):
        self.assertEqual(legal(((3, 4, 1), (4, 4, 1)), 20), ((3, 2), (11, 2)))

    def test_known_ones(self):
        self.assertEqual(legal((), 0), ())
        self.assertEqual(legal((), 400), ())
        self.assertEqual(legal(((5, 3, 2),), 8), ((5, 1),))
        self.assertEqual(legal(((5, 3, 2),), 7), ((4, 1),))
        self.assertEqual(legal(((5, 3, 2),), 3), ((0, 1),))
        self.assertEqual(legal(((200, 20, 20),), 400), ((200, 1),))
        self.assertEqual(legal(((200, 20, 20),), 200), ((180, 1),))
        self.assertEqual(legal(((0, 20, 1),) * 8, 160), tuple((20 * k, 1) for k in range(8)))
        self.assertEqual(legal(((10, 2, 1), (20, 2, 1)), 100), ((10, 1), (20, 1)))
        self.assertEqual(legal(((20, 2, 1), (10, 2, 1)), 100), ((14, 1), (16, 1)))
        self.assertEqual(legal(((20, 2, 3), (10, 2, 1)), 100), ((17, 1), (19, 1)))
        self.assertEqual(legal(((0, 5, 1), (0, 5, 1)), 100), ((0, 1), (5, 1)))

    def test_touching_ones_stay(self):
        self.assertEqual(legal(((10, 2, 1), (12, 2, 9)), 100), ((10, 1), (12, 1)))

    def test_random(self):
        source = Random(104)
        for _ in range(300):
            cells = random_cells(source, source.randint(0, 5), source.choice((20, 60, 200)))
            taken = sum(width for _, width, _ in cells)
            room = source.choice((taken, taken + 1, source.randint(taken, taken + 30), source.randint(taken, 400), 400))
            self.assertEqual(legal(cells, room), pairs(plain.plain_legal(cells, room)), (cells, room))

    def test_eight_cells(self):
        source = Random(105)
        for _ in range(10):
            cells = random_cells(source, 8, source.choice((20, 100, 200)))
            room = source.randint(sum(width for _, width, _ in cells), 400)
            self.assertEqual(legal(cells, room), pairs(plain.plain_legal(cells, room)), (cells, room))


class Cost(FloorCase):
    """Point 47."""

    def test_no_places(self):
        cells = ((0, 3, 1), (0, 4, 1))
        for value in judge.ODD_VALUES + (((0, 1),), ((0, 1),) * 3, [(0, 1), (0, 1)], "01"):
            if not isinstance(value, tuple) or len(value) != 2:
                self.check_error(BadRow, ("index", None), cost, cells, value)
        self.check_error(BadRow, ("index", None), cost, (), ((0, 1),))
        self.check_error(BadRow, ("index", None), cost, (), None)
        self.check_error(BadRow, ("index", None), cost, (), [])

    def test_wrong_places(self):
        cells = ((0, 3, 1), (0, 4, 1))
        for value in judge.ODD_VALUES + ((0,), (0, 0), (0, -1), (1, 1, 1), [0, 1], "01", (True, 1), (0, True), ("0", 1),
                                         (0, None), (None, 1), ((0,), 1), ((0, 1),)):
            self.check_error(BadRow, ("index", 0), cost, cells, (value, (0, 1)))
            self.check_error(BadRow, ("index", 1), cost, cells, ((0, 1), value))
            self.check_error(BadRow, ("index", 0), cost, cells, (value, value))

    def test_cells_ahead_of_places(self):
        self.check_error(BadRow, ("index", 1), cost, ((0, 3, 1), None), (None, None))
        self.check_error(BadRow, ("index", 0), cost, (None,), ())

    def test_known_ones(self):
        self.assertEqual(cost((), ()), (0, 1))
        self.assertEqual(cost(((5, 3, 2),), ((5, 1),)), (0, 1))
        self.assertEqual(cost(((5, 3, 2),), ((7, 1),)), (8, 1))
        self.assertEqual(cost(((5, 3, 2),), ((3, 1),)), (8, 1))
        self.assertEqual(cost(((3, 4, 1), (4, 4, 1)), ((3, 2), (11, 2))), (9, 2))
        self.assertEqual(cost(((3, 4, 1),), ((10, 4),)), (1, 4))
        self.assertEqual(cost(((0, 1, 20), (200, 1, 20)), ((-10, 1), (410, 2))), (20 * 100 + 20 * 25, 1))
        self.assertEqual(cost(((0, 1, 1), (0, 1, 1)), ((1, 2), (1, 3))), (13, 36))
        self.assertEqual(cost(((0, 1, 1),), ((10 ** 30, 10 ** 29),)), (100, 1))

    def test_random(self):
        source = Random(106)
        for _ in range(300):
            cells = random_cells(source, source.randint(0, 8), 200)
            places = tuple((source.randint(-300, 900), source.randint(1, 12)) for _ in cells)
            wanted = plain.plain_cost(cells, [Fraction(*place) for place in places])
            self.assertEqual(cost(cells, places), (wanted.numerator, wanted.denominator), (cells, places))

    def test_cost_of_legal_places(self):
        source = Random(107)
        for _ in range(30):
            cells = random_cells(source, 3, 60)
            places = legal(cells, 100)
            wanted = plain.plain_cost(cells, plain.plain_legal(cells, 100))
            self.assertEqual(cost(cells, places), (wanted.numerator, wanted.denominator), cells)


if __name__ == "__main__":
    unittest.main()
