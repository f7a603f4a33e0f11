"""Points 48 to 53: masks, nets, areas and rules of layers."""

import unittest
from random import Random

from chipfloor.errors import BadMask, BadNumber
from chipfloor.masks import area, bare_cuts, gates, nets, rim, too_narrow, too_near
from tests import judge
from tests import judge_masks as plain
from tests.helpers import FloorCase

ALONE = (nets, gates)
OF_LAYERS = (area, rim)
WITH_NUMBER = (too_near, too_narrow, bare_cuts)
ONE = plain.ONE
WHOLE = ("metal", 0, 0, 60, 60)


class Masks(FloorCase):
    """Point 48."""

    def check_all(self, field, mask):
        for function in ALONE:
            self.check_error(BadMask, field, function, mask)
        for layer in ("metal", None, "gold"):
            for function in OF_LAYERS:
                self.check_error(BadMask, field, function, mask, layer)
            for function in WITH_NUMBER:
                self.check_error(BadMask, field, function, mask, layer, 1)
                self.check_error(BadMask, field, function, mask, layer, None)

    def test_no_masks(self):
        for value in plain.NO_MASKS:
            self.check_all(("index", None), value)

    def test_wrong_boxes(self):
        for value in plain.NO_BOXES:
            self.check_all(("index", 0), (value,))
            self.check_all(("index", 1), (ONE, value, value))
            self.check_all(("index", 23), (ONE,) * 23 + (value,))

    def test_no_layers(self):
        for value in plain.NO_LAYERS:
            for mask in ((), (ONE,)):
                for function in OF_LAYERS:
                    self.check_error(BadNumber, None, function, mask, value)
                for function in WITH_NUMBER:
                    self.check_error(BadNumber, None, function, mask, value, 1)
                    self.check_error(BadNumber, None, function, mask, value, None)

    def test_no_distances(self):
        for value in judge.ODD_VALUES + (0, -1, 61, True, False, "1", 10 ** 30):
            if value.__class__ is not int or value not in range(1, 61):
                self.check_error(BadNumber, None, too_near, (ONE,), "metal", value)
                self.check_error(BadNumber, None, too_narrow, (), "cut", value)

    def test_no_margins(self):
        for value in judge.ODD_VALUES + (-1, 61, True, False, "0", 10 ** 30):
            if value.__class__ is not int or value not in range(61):
                self.check_error(BadNumber, None, bare_cuts, (ONE,), "metal", value)
                self.check_error(BadNumber, None, bare_cuts, (), "cut", value)

    def test_most_boxes(self):
        mask = tuple(("poly", 2 * k, 59, 2 * k + 1, 60) for k in range(24))
        self.assertEqual(len(nets(mask)), 24)
        self.assertEqual(area(mask, "poly"), 24)

    def test_no_box(self):
        self.assertEqual((nets(()), gates(())), ([], ()))
        for layer in plain.LAYERS:
            self.assertEqual((area((), layer), rim((), layer)), (0, 0))
            self.assertEqual(too_near((), layer, 60), ())
            self.assertEqual(too_narrow((), layer, 1), [])
            self.assertEqual(bare_cuts((), layer, 0), ())


class Nets(FloorCase):
    """Point 49."""

    def test_one_layer(self):
        for layer in plain.LAYERS:
            box = (layer, 10, 10, 20, 20)
            for other, joined in (((12, 12, 15, 15), True), ((15, 15, 25, 25), True), ((20, 10, 30, 20), True),
                                  ((20, 19, 30, 29), True), ((20, 20, 30, 30), False), ((0, 0, 10, 10), False),
                                  ((0, 20, 10, 30), False), ((10, 20, 11, 21), True), ((21, 10, 22, 20), False),
                                  ((10, 8, 20, 9), False), ((10, 10, 20, 20), True), ((0, 0, 60, 60), True)):
                wanted = [(0, 1)] if joined else [(0,), (1,)]
                self.assertEqual(nets((box, (layer,) + other)), wanted, other)
                self.assertEqual(nets(((layer,) + other, box)), wanted, other)

    def test_cut_and_another_layer(self):
        for layer in ("metal", "poly"):
            box = (layer, 10, 10, 20, 20)
            for other, joined in (((12, 12, 15, 15), True), ((19, 19, 21, 21), True), ((20, 10, 30, 20), False),
                                  ((20, 20, 30, 30), False), ((10, 20, 11, 21), False), ((0, 0, 60, 60), True)):
                wanted = [(0, 1)] if joined else [(0,), (1,)]
                self.assertEqual(nets((box, ("cut",) + other)), wanted, other)
                self.assertEqual(nets((("cut",) + other, box)), wanted, other)

    def test_metal_and_poly_are_not_joined(self):
        mask = (("metal", 0, 0, 9, 9), ("poly", 0, 0, 9, 9))
        self.assertEqual(nets(mask), [(0,), (1,)])
        self.assertEqual(nets(mask + (("cut", 4, 4, 5, 5),)), [(0, 1, 2)])

    def test_order(self):
        mask = (("metal", 0, 0, 1, 1), ("metal", 4, 0, 5, 1), ("metal", 2, 0, 3, 1), ("metal", 3, 0, 4, 1))
        self.assertEqual(nets(mask), [(0,), (1, 2, 3)])
        self.assertEqual(nets(mask[::-1]), [(0, 1, 2), (3,)])

    def test_new_list(self):
        mask = (ONE,)
        nets(mask).append(())
        self.assertEqual(nets(mask), [(0,)])

    def test_gates(self):
        mask = (("metal", 0, 0, 9, 9), ("poly", 8, 8, 12, 12), ("poly", 9, 0, 12, 9), ("metal", 10, 8, 11, 9),
                ("cut", 0, 0, 60, 60), ("metal", 9, 9, 10, 10))
        self.assertEqual(gates(mask), ((1, 0), (1, 3), (1, 5), (2, 3)))
        self.assertEqual(gates(mask[:1]), ())

    def test_random(self):
        source = Random(111)
        for _ in range(300):
            mask = plain.random_mask(source, source.randint(0, 24), source.choice((6, 12, 30, 60)))
            answer = nets(mask)
            self.assertIsInstance(answer, list)
            self.assertEqual(answer, plain.plain_nets(mask), mask)
            self.assertEqual(gates(mask), plain.plain_gates(mask), mask)


class Areas(FloorCase):
    """Point 50."""

    def test_known_ones(self):
        self.assertEqual((area((ONE,), "metal"), rim((ONE,), "metal")), (1, 4))
        self.assertEqual((area((ONE,), "poly"), rim((ONE,), "poly")), (0, 0))
        self.assertEqual((area((WHOLE,), "metal"), rim((WHOLE,), "metal")), (3600, 240))
        self.assertEqual((area((WHOLE, ONE) * 12, "metal"), rim((WHOLE, ONE) * 12, "metal")), (3600, 240))

    def test_boxes_together(self):
        self.assertEqual(area((("cut", 0, 0, 4, 4), ("cut", 2, 2, 6, 6)), "cut"), 28)
        self.assertEqual(rim((("cut", 0, 0, 4, 4), ("cut", 2, 2, 6, 6)), "cut"), 24)
        self.assertEqual(rim((("cut", 0, 0, 4, 4), ("cut", 4, 0, 6, 4)), "cut"), 20)
        self.assertEqual(rim((("cut", 0, 0, 4, 4), ("cut", 4, 4, 6, 6)), "cut"), 24)

    def test_holes(self):
        ring = (("metal", 0, 0, 5, 1), ("metal", 0, 4, 5, 5), ("metal", 0, 0, 1, 5), ("metal", 4, 0, 5, 5))
        self.assertEqual((area(ring, "metal"), rim(ring, "metal")), (16, 20 + 12))
        self.assertEqual(rim(ring + (("poly", 1, 1, 4, 4),), "metal"), 32)
        self.assertEqual(rim(ring + (("metal", 1, 1, 4, 4),), "metal"), 20)

    def test_random(self):
        source = Random(112)
        for _ in range(200):
            mask = plain.random_mask(source, source.randint(0, 24), source.choice((6, 12, 30, 60)))
            for layer in plain.LAYERS:
                self.assertEqual(area(mask, layer), plain.plain_area(mask, layer), mask)
                self.assertEqual(rim(mask, layer), plain.plain_rim(mask, layer), mask)


class TooNear(FloorCase):
    """Point 51."""

    def test_gaps(self):
        one = ("metal", 0, 0, 10, 10)
        for other, far in (((13, 0, 14, 1), 3), ((0, 15, 1, 16), 5), ((13, 14, 20, 20), 5)):
            mask = (one, ("metal",) + other)
            self.assertEqual(too_near(mask, "metal", far), ())
            self.assertEqual(too_near(mask, "metal", far + 1), ((0, 1),))
            self.assertEqual(too_near(mask[::-1], "metal", far + 1), ((0, 1),))
            self.assertEqual(too_near(mask, "poly", far + 1), ())

    def test_square_root_between(self):
        # One across and one up: more than 1 apart, less than 2.
        mask = (("cut", 0, 0, 1, 1), ("cut", 2, 2, 3, 3))
        self.assertEqual((too_near(mask, "cut", 1), too_near(mask, "cut", 2)), ((), ((0, 1),)))

    def test_corners_that_touch(self):
        mask = (("poly", 0, 0, 1, 1), ("poly", 1, 1, 2, 2))
        self.assertEqual(too_near(mask, "poly", 1), ((0, 1),))

    def test_one_net_by_another_layer(self):
        mask = (("metal", 0, 0, 2, 2), ("metal", 3, 0, 5, 2), ("poly", 0, 0, 5, 2), ("cut", 0, 0, 1, 1),
                ("cut", 4, 0, 5, 1))
        self.assertEqual(too_near(mask, "metal", 60), ())
        self.assertEqual(too_near(mask, "cut", 60), ())
        self.assertEqual(too_near(mask[:4], "metal", 60), ((0, 1),))
        self.assertEqual(too_near(mask[:3] + mask[4:], "metal", 60), ((0, 1),))

    def test_random(self):
        source = Random(113)
        for _ in range(80):
            mask = plain.random_mask(source, source.randint(0, 16), source.choice((12, 30)))
            for layer in plain.LAYERS:
                least = source.choice((1, 2, 3, 5, 10, 60))
                self.assertEqual(too_near(mask, layer, least), plain.plain_too_near(mask, layer, least), (mask, least))


class TooNarrow(FloorCase):
    """Point 52."""

    def test_known_ones(self):
        self.assertEqual(too_narrow((ONE,), "metal", 1), [])
        self.assertEqual(too_narrow((ONE,), "metal", 2), [(0, 0)])
        self.assertEqual(too_narrow((ONE,), "poly", 2), [])
        self.assertEqual(too_narrow((WHOLE,), "metal", 60), [])
        self.assertEqual(len(too_narrow((("metal", 0, 0, 60, 59),), "metal", 60)), 60 * 59)
        self.assertEqual(len(too_narrow((("metal", 1, 0, 60, 60),), "metal", 60)), 60 * 59)
        self.assertEqual(too_narrow((("cut", 58, 58, 60, 60),), "cut", 2), [])
        self.assertEqual(too_narrow((("cut", 58, 58, 60, 60),), "cut", 3), [(58, 58), (58, 59), (59, 58), (59, 59)])

    def test_tongue(self):
        mask = (("poly", 0, 0, 3, 3), ("poly", 3, 1, 5, 2))
        self.assertEqual(too_narrow(mask, "poly", 2), [(3, 1), (4, 1)])

    def test_boxes_make_one_square(self):
        mask = (("poly", 0, 0, 1, 3), ("poly", 1, 0, 3, 1), ("poly", 1, 1, 3, 3))
        self.assertEqual(too_narrow(mask, "poly", 3), [])
        self.assertEqual(len(too_narrow(mask, "poly", 4)), 9)

    def test_random(self):
        source = Random(114)
        for _ in range(150):
            mask = plain.random_mask(source, source.randint(0, 24), source.choice((6, 12, 30)))
            for layer in plain.LAYERS:
                for least in (1, 2, source.randint(3, 6)):
                    answer = too_narrow(mask, layer, least)
                    self.assertIsInstance(answer, list)
                    self.assertEqual(answer, plain.plain_too_narrow(mask, layer, least), (mask, layer, least))


class BareCuts(FloorCase):
    """Point 53."""

    def test_margins(self):
        mask = (("metal", 10, 10, 20, 20), ("cut", 13, 12, 16, 17))
        self.assertEqual(bare_cuts(mask, "metal", 0), ())
        self.assertEqual(bare_cuts(mask, "metal", 2), ())
        self.assertEqual(bare_cuts(mask, "metal", 3), (1,))
        self.assertEqual(bare_cuts(mask, "poly", 0), (1,))
        self.assertEqual(bare_cuts(mask, "cut", 0), ())
        self.assertEqual(bare_cuts(mask, "cut", 1), (1,))

    def test_all_sides(self):
        for bare in (("cut", 0, 1, 8, 8), ("cut", 1, 0, 8, 8), ("cut", 1, 1, 9, 8), ("cut", 1, 1, 8, 9)):
            mask = (bare, ("poly", 10, 10, 20, 20), tuple([bare[0]] + [place + 11 for place in bare[1:]]),
                    ("poly", 0, 0, 9, 9))
            self.assertEqual(bare_cuts(mask, "poly", 0), ())
            self.assertEqual(bare_cuts(mask, "poly", 1)[:1], (0,))

    def test_beyond_the_border(self):
        mask = (WHOLE, ("cut", 0, 5, 6, 6), ("cut", 5, 0, 6, 6), ("cut", 50, 50, 60, 51), ("cut", 50, 50, 51, 60),
                ("cut", 30, 30, 31, 31))
        self.assertEqual(bare_cuts(mask, "metal", 0), ())
        self.assertEqual(bare_cuts(mask, "metal", 1), (1, 2, 3, 4))
        self.assertEqual(bare_cuts(mask, "metal", 29), (1, 2, 3, 4))
        self.assertEqual(bare_cuts(mask, "metal", 30), (1, 2, 3, 4, 5))
        self.assertEqual(bare_cuts(mask, "metal", 60), (1, 2, 3, 4, 5))

    def test_boxes_together(self):
        mask = (("metal", 0, 0, 5, 10), ("cut", 3, 3, 7, 7), ("metal", 5, 0, 10, 10))
        self.assertEqual(bare_cuts(mask, "metal", 3), ())
        self.assertEqual(bare_cuts(mask[:2], "metal", 0), (1,))

    def test_random(self):
        source = Random(115)
        for _ in range(200):
            mask = plain.random_mask(source, source.randint(0, 24), source.choice((6, 12, 30)))
            for layer in plain.LAYERS:
                for margin in (0, 1, source.randint(0, 60)):
                    self.assertEqual(bare_cuts(mask, layer, margin), plain.plain_bare_cuts(mask, layer, margin),
                                     (mask, layer, margin))


if __name__ == "__main__":
    unittest.main()
