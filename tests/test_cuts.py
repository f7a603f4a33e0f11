"""Points 41 to 43: nets, sides, cuts and passes."""

import unittest
from random import Random

from chipfloor.cuts import best_by_passes, better, cut, gains, least_cut
from chipfloor.errors import BadNets, BadNumber, BadSides
from tests import judge_cells as plain
from tests.helpers import FloorCase

OF_SIDES = (cut, gains, better, best_by_passes)
CHAIN = ((0, 1), (1, 2), (2, 3))


class Nets(FloorCase):
    """Point 41, the errors."""

    def check_all(self, kind, field, many, nets):
        for function in OF_SIDES:
            self.check_error(kind, field, function, many, nets, ())
            self.check_error(kind, field, function, many, nets, None)
        self.check_error(kind, field, least_cut, many, nets, 0)
        self.check_error(kind, field, least_cut, many, nets, None)

    def test_no_number_of_cells(self):
        for value in plain.NO_COUNTS:
            self.check_all(BadNumber, None, value, ())
            self.check_all(BadNumber, None, value, None)

    def test_no_tuple_of_nets(self):
        for value in plain.NO_TWENTY:
            self.check_all(BadNets, ("index", None), 3, value)

    def test_wrong_nets(self):
        for value in plain.NO_NETS:
            self.check_all(BadNets, ("index", 0), 3, (value,))
            self.check_all(BadNets, ("index", 1), 3, ((0, 1), value, value))
            self.check_all(BadNets, ("index", 19), 3, ((0, 1),) * 19 + (value,))
            self.check_all(BadNets, ("index", 0), 1, (value,))

    def test_cells_of_nets(self):
        self.assertEqual(cut(8, (tuple(range(8)),), (7,)), 1)
        self.check_all(BadNets, ("index", 0), 7, ((0, 7),))
        self.check_all(BadNets, ("index", 1), 2, ((0, 1), (1, 2)))
        self.check_all(BadNets, ("index", 0), 1, ((0, 0),))

    def test_no_sides(self):
        for value in plain.NO_SIDES:
            for function in OF_SIDES:
                self.check_error(BadSides, None, function, 2, ((0, 1),), value)
                self.check_error(BadSides, None, function, 2, (), value)
        for function in OF_SIDES:
            self.check_error(BadSides, None, function, 1, (), (1,))
            self.check_error(BadSides, None, function, 8, (), (8,))

    def test_wrong_low(self):
        for value in plain.NO_COUNTS:
            if value.__class__ is not int or value != 0:
                self.check_error(BadNumber, None, least_cut, 8, (), value)
        for many, low in ((1, 1), (2, 2), (3, 2), (7, 4), (8, 5), (8, -1)):
            self.check_error(BadNumber, None, least_cut, many, (), low)
        self.check_error(BadNets, ("index", 0), least_cut, 3, (None,), 9)


class Cut(FloorCase):
    """Point 41."""

    def test_cut(self):
        self.assertEqual(cut(1, (), ()), 0)
        self.assertEqual(cut(1, (), (0,)), 0)
        self.assertEqual(cut(4, CHAIN, (0, 1)), 1)
        self.assertEqual(cut(4, CHAIN, (0, 2)), 3)
        self.assertEqual(cut(4, CHAIN, ()), 0)
        self.assertEqual(cut(4, CHAIN, (0, 1, 2, 3)), 0)
        self.assertEqual(cut(4, ((0, 1, 2, 3),) * 20, (3,)), 20)
        self.assertEqual(cut(3, ((0, 1), (0, 1)), (0,)), 2)

    def test_gains(self):
        self.assertEqual(gains(1, (), ()), (0,))
        self.assertEqual(gains(4, CHAIN, (0, 2)), (1, 2, 2, 1))
        self.assertEqual(gains(4, CHAIN, (0, 1)), (-1, 0, 0, -1))
        self.assertEqual(gains(3, ((0, 1, 2),), ()), (-1, -1, -1))
        self.assertEqual(gains(3, ((0, 1, 2),), (1,)), (0, 1, 0))

    def test_random(self):
        source = Random(91)
        for _ in range(300):
            many = source.randint(1, 8)
            nets, side = plain.random_nets(source, many, 20), plain.random_side(source, many)
            now = plain.plain_cut(nets, side)
            self.assertEqual(cut(many, nets, side), now, (nets, side))
            self.assertEqual(gains(many, nets, side),
                             tuple(now - plain.plain_cut(nets, plain.with_changed(side, cell)) for cell in range(many)),
                             (nets, side))


class LeastCut(FloorCase):
    """Point 42."""

    def test_known_ones(self):
        self.assertEqual(least_cut(1, (), 0), (0, (0,)))
        self.assertEqual(least_cut(2, ((0, 1),), 0), (0, (0, 1)))
        self.assertEqual(least_cut(2, ((0, 1),), 1), (1, (0,)))
        self.assertEqual(least_cut(4, CHAIN, 1), (1, (0,)))
        self.assertEqual(least_cut(4, CHAIN, 2), (1, (0, 1)))
        self.assertEqual(least_cut(3, (), 0), (0, (0,)))
        self.assertEqual(least_cut(3, (), 1), (0, (0,)))
        self.assertEqual(least_cut(8, (), 4), (0, (0, 1, 2, 3)))
        self.assertEqual(least_cut(4, ((0, 3), (1, 2)), 2), (0, (0, 3)))

    def test_random(self):
        source = Random(92)
        for _ in range(60):
            many = source.randint(1, 8)
            nets = plain.random_nets(source, many, 12)
            for low in range(many // 2 + 1):
                self.assertEqual(least_cut(many, nets, low), plain.plain_least_cut(many, nets, low), (nets, low))


class Passes(FloorCase):
    """Point 43."""

    def test_known_ones(self):
        self.assertEqual(better(1, (), ()), ())
        self.assertEqual(better(1, (), (0,)), (0,))
        self.assertEqual(better(2, ((0, 1),), (0,)), (0,))
        self.assertEqual(better(4, CHAIN, (0, 2)), (2, 3))
        self.assertEqual(better(4, CHAIN, (0, 1)), (0, 1))
        self.assertEqual(better(4, CHAIN, ()), ())
        self.assertEqual(better(4, CHAIN, (0, 1, 2, 3)), (0, 1, 2, 3))

    def test_swaps_that_cut_more_on_the_way(self):
        found = 0
        source = Random(93)
        for _ in range(400):
            many = source.randint(4, 8)
            nets, side = plain.random_nets(source, many, 10), plain.random_side(source, many)
            behind = plain.plain_pass(many, nets, side)
            wanted = plain.plain_better(many, nets, side)
            self.assertEqual(better(many, nets, side), wanted, (nets, side))
            if wanted != side and behind[0] != wanted:
                found += plain.plain_cut(nets, behind[0]) >= plain.plain_cut(nets, side)
        self.assertGreater(found, 0)

    def test_best_by_passes(self):
        source = Random(94)
        again = 0
        for _ in range(400):
            many = source.randint(1, 8)
            nets, side = plain.random_nets(source, many, 15), plain.random_side(source, many)
            wanted = plain.plain_best(many, nets, side)
            self.assertEqual(best_by_passes(many, nets, side), wanted, (nets, side))
            self.assertEqual(better(many, nets, side), plain.plain_better(many, nets, side), (nets, side))
            again += plain.plain_better(many, nets, side) != wanted
        self.assertGreater(again, 0)


if __name__ == "__main__":
    unittest.main()
