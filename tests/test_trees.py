"""Points 32 to 36: pins, spanning pairs, trunks, least trees and sides."""

import unittest
from random import Random

from chipfloor.errors import BadPins, BadTree
from chipfloor.trees import does_join, half_box, is_tree, least_tree, length_of, spanning, trunk
from tests import judge
from tests import judge_points as plain
from tests.helpers import FloorCase

CROSS = ((0, 1), (2, 1), (1, 0), (1, 2))
OF_PINS = (half_box, spanning, trunk, least_tree)
OF_SIDES = (does_join, is_tree)


class Pins(FloorCase):
    """Point 32."""

    def check_all(self, index, pins):
        for function in OF_PINS:
            self.check_error(BadPins, ("index", index), function, pins)
        for function in OF_SIDES:
            self.check_error(BadPins, ("index", index), function, pins, ())
            self.check_error(BadPins, ("index", index), function, pins, None)

    def test_no_pins(self):
        for value in plain.NO_SIX:
            self.check_all(None, value)

    def test_wrong_points(self):
        for value in plain.NO_POINTS:
            self.check_all(0, (value,))
            self.check_all(1, ((0, 0), value))
            self.check_all(0, (value, value))
            self.check_all(5, tuple((k, 0) for k in range(5)) + (value,))

    def test_equal_points(self):
        self.check_all(1, ((3, 4), (3, 4)))
        self.check_all(2, ((3, 4), (4, 3), (3, 4), None))
        self.check_all(5, CROSS + ((7, 7), (1, 2)))

    def test_half_box(self):
        self.assertEqual(half_box(((7, 9),)), 0)
        self.assertEqual(half_box(CROSS), 4)
        self.assertEqual(half_box(((0, 0), (40, 40))), 80)
        self.assertEqual(half_box(((5, 3), (1, 4), (2, 10))), 11)


class Spanning(FloorCase):
    """Point 33, spanning."""

    def check_spanning(self, pins):
        answer = spanning(pins)
        self.assertIsInstance(answer, tuple)
        length, pairs = answer
        self.assertEqual(length, plain.joined_length(pins), pins)
        self.assertIsInstance(pairs, tuple)
        self.assertEqual(len(pairs), len(pins) - 1)
        self.assertEqual(list(pairs), sorted(set(pairs)), (pins, pairs))
        for one, other in pairs:
            self.assertEqual((one.__class__, other.__class__), (int, int))
            self.assertTrue(0 <= one < other < len(pins), (pins, pairs))
        self.assertEqual({pair.__class__ for pair in pairs} - {tuple}, set())
        self.assertEqual(sum(plain.far(pins[one], pins[other]) for one, other in pairs), length)
        self.assertEqual(plain.hanging(0, pairs), set(range(len(pins))), (pins, pairs))

    def test_known_ones(self):
        self.assertEqual(spanning(((7, 9),)), (0, ()))
        self.assertEqual(spanning(((7, 9), (4, 9))), (3, ((0, 1),)))
        self.assertEqual(spanning(CROSS)[0], 6)
        self.assertEqual(spanning(((0, 0), (9, 0), (4, 0))), (9, ((0, 2), (1, 2))))

    def test_random(self):
        source = Random(71)
        for many in (1, 2, 3, 4, 5, 6):
            for most in (3, 8, 40):
                for _ in range(20):
                    self.check_spanning(plain.random_pins(source, many, most))


class Trunk(FloorCase):
    """Point 33, trunk."""

    def test_known_ones(self):
        self.assertEqual(trunk(((7, 9),)), (0, 9))
        self.assertEqual(trunk(CROSS), (4, 1))
        self.assertEqual(trunk(((0, 0), (5, 3))), (8, 0))
        self.assertEqual(trunk(((2, 7), (2, 1), (2, 4))), (6, 1))
        self.assertEqual(trunk(((0, 5), (4, 5), (2, 9), (2, 8))), (8, 5))

    def test_random(self):
        source = Random(72)
        for many in (1, 2, 3, 4, 5, 6):
            for most in (3, 8, 40):
                for _ in range(20):
                    pins = plain.random_pins(source, many, most)
                    self.assertEqual(trunk(pins), plain.plain_trunk(pins), pins)


class LeastTree(FloorCase):
    """Points 34 and 36."""

    def check_least(self, pins, wanted):
        answer = least_tree(pins)
        self.assertIsInstance(answer, tuple)
        length, sides = answer
        self.assertEqual(length, wanted, pins)
        self.assertIsInstance(sides, tuple)
        self.assertEqual(list(sides), sorted(set(sides)), (pins, sides))
        allowed = plain.neighbors(pins)
        for side in sides:
            self.assertIn(side, allowed, (pins, sides))
        self.assertEqual(sum(plain.far(*side) for side in sides), length, (pins, sides))
        self.assertLessEqual(set(pins), plain.hanging(pins[0], sides), (pins, sides))
        self.assertIs(does_join(pins, sides), True)
        self.assertIs(is_tree(pins, sides), True)
        self.assertEqual(length_of(sides), length)
        self.check_bounds(pins, length)

    def check_bounds(self, pins, length):
        self.assertLessEqual(half_box(pins), length)
        self.assertLessEqual(length, min(spanning(pins)[0], trunk(pins)[0]))
        self.assertLessEqual(2 * spanning(pins)[0], 3 * length)
        if len(pins) <= 3:
            self.assertEqual((length, trunk(pins)[0]), (half_box(pins), half_box(pins)))

    def test_known_ones(self):
        self.assertEqual(least_tree(((7, 9),)), (0, ()))
        self.assertEqual(least_tree(((7, 9), (4, 9))), (3, (((4, 9), (7, 9)),)))
        self.assertEqual(least_tree(CROSS), (4, (((0, 1), (1, 1)), ((1, 0), (1, 1)), ((1, 1), (1, 2)), ((1, 1), (2, 1)))))
        self.assertEqual(least_tree(((0, 0), (9, 0), (4, 0))), (9, (((0, 0), (4, 0)), ((4, 0), (9, 0)))))
        self.assertEqual(least_tree(((0, 0), (40, 40)))[0], 80)

    def test_few_pins(self):
        source = Random(73)
        for many in (1, 2, 3, 4):
            for most in (2, 4, 40):
                for _ in range(15):
                    pins = plain.random_pins(source, many, most)
                    self.check_least(pins, plain.least_length(pins))

    def test_five_pins(self):
        source = Random(74)
        for most in (2, 4, 40):
            for _ in range(4):
                pins = plain.random_pins(source, 5, most)
                self.check_least(pins, plain.least_length(pins))

    def test_six_pins(self):
        source = Random(75)
        for _ in range(12):
            pins = plain.random_pins(source, 6, 2)
            self.check_least(pins, plain.least_length(pins))
        pins = tuple((across * 7, up * 9) for across, up in plain.random_pins(source, 6, 3))
        self.check_least(pins, plain.least_length(pins))

    def test_six_pins_far_apart(self):
        # Two rows of three: the middle row, or one end of each column, joins them.
        self.check_least(((0, 0), (10, 0), (20, 0), (0, 1), (10, 1), (20, 1)), 23)
        self.check_least(((0, 1), (1, 0), (1, 2), (9, 0), (9, 2), (10, 1)), 14)
        self.check_least(((0, 0), (8, 8), (16, 16), (24, 24), (32, 32), (40, 40)), 80)

    def test_equal_arguments_have_equal_results(self):
        self.assertEqual(least_tree(CROSS), least_tree(tuple([tuple(list(pin)) for pin in CROSS])))


class Sides(FloorCase):
    """Point 35."""

    def check_all(self, index, sides):
        self.check_error(BadTree, ("index", index), length_of, sides)
        for function in OF_SIDES:
            self.check_error(BadTree, ("index", index), function, CROSS, sides)

    def test_no_tuples(self):
        for value in judge.ODD_VALUES:
            if not isinstance(value, tuple):
                self.check_all(None, value)

    def test_wrong_sides(self):
        wrong = judge.ODD_VALUES + (
            ((0, 0),), ((0, 0), (0, 0)), ((0, 1), (0, 0)), ((1, 0), (0, 0)), ((0, 0), (1, 1)), ((0, 0), (0, 41)),
            ((0, 0), (41, 0)), ((-1, 0), (0, 0)), ((0, -1), (0, 0)), [(0, 0), (0, 1)], ((0, 0), [0, 1]),
            ([0, 0], (0, 1)), ((0, 0), (0, 1), (0, 2)), ((0, 0), (0, True)), ((False, 0), (0, 1)), ((0, 0), "01"),
            ((0, 0), None), (0, 0, 0, 1), ((0,), (1,)), ((0, 0), (0, 1, 2)))
        for value in wrong:
            self.check_all(0, (value,))
            self.check_all(1, (((0, 0), (0, 40)), value))
            self.check_all(0, (value, value))

    def test_not_ascending(self):
        one, other = ((0, 0), (0, 1)), ((0, 1), (0, 2))
        self.assertEqual(length_of((one, other)), 2)
        self.check_all(1, (other, one))
        self.check_all(1, (one, one))
        self.check_all(2, (one, other, other, None))
        self.check_all(1, (((0, 0), (3, 0)), ((0, 0), (0, 3))))

    def test_pins_ahead_of_sides(self):
        for function in OF_SIDES:
            self.check_error(BadPins, ("index", 1), function, ((0, 0), (0, 0)), None)

    def test_length_of(self):
        self.assertEqual(length_of(()), 0)
        self.assertEqual(length_of((((0, 0), (0, 40)),)), 40)
        self.assertEqual(length_of((((0, 0), (0, 3)), ((0, 0), (7, 0)), ((9, 9), (9, 10)))), 11)
        # They are added up even if one lies upon the other.
        self.assertEqual(length_of((((0, 0), (0, 3)), ((0, 0), (0, 5)))), 8)

    def test_many_sides(self):
        sides = tuple(((across, up), (across, up + 1)) for across in range(41) for up in range(40))
        self.assertEqual(length_of(sides), 1640)
        self.assertIs(does_join(((0, 0), (0, 40)), sides), True)
        self.assertIs(does_join(((0, 0), (1, 0)), sides), False)

    def check_tree(self, pins, sides, joins, tree):
        self.assertIs(does_join(pins, sides), joins, (pins, sides))
        self.assertIs(is_tree(pins, sides), tree, (pins, sides))

    def test_one_pin(self):
        self.check_tree(((5, 5),), (), True, True)
        self.check_tree(((5, 5),), (((5, 5), (5, 6)),), True, True)
        self.check_tree(((5, 5),), (((5, 6), (5, 7)),), True, False)

    def test_two_pins(self):
        pins = ((0, 0), (0, 2))
        self.check_tree(pins, (), False, False)
        self.check_tree(pins, (((0, 0), (0, 2)),), True, True)
        self.check_tree(pins, (((0, 0), (0, 1)), ((0, 1), (0, 2))), True, True)
        self.check_tree(pins, (((0, 0), (0, 1)),), False, False)
        # A pin within a side, or sides that cross, share no end.
        self.check_tree(((0, 0), (0, 1)), (((0, 0), (0, 2)),), False, False)
        self.check_tree(((0, 1), (1, 0)), (((0, 1), (2, 1)), ((1, 0), (1, 2))), False, False)

    def test_rings_and_what_hangs_apart(self):
        pins = ((0, 0), (1, 1))
        ring = (((0, 0), (0, 1)), ((0, 0), (1, 0)), ((0, 1), (1, 1)), ((1, 0), (1, 1)))
        self.check_tree(pins, ring, True, False)
        self.check_tree(pins, ring[:3], True, True)
        self.check_tree(pins, ring[::2], True, True)
        self.check_tree(pins, ring[::3], False, False)
        self.check_tree(pins, ring[::2] + (((8, 8), (8, 9)),), True, False)
        self.check_tree(pins, ring + (((8, 8), (8, 9)),), True, False)
        self.check_tree(pins, ring[::2] + (((1, 1), (1, 5)),), True, True)

    def test_random(self):
        source = Random(76)
        sides = plain.all_sides(2)
        found = {}
        for _ in range(3000):
            pins = plain.random_pins(source, source.randint(1, 3), 2)
            some = tuple(sorted(source.sample(sides, source.randint(0, 4))))
            hanging = plain.hanging(pins[0], some)
            joins = set(pins) <= hanging
            tree = joins and all(end in hanging for side in some for end in side) and len(some) == len(hanging) - 1
            self.check_tree(pins, some, joins, tree)
            found[(joins, tree)] = found.get((joins, tree), 0) + 1
        self.assertGreater(min(found[key] for key in ((False, False), (True, False), (True, True))), 50)


if __name__ == "__main__":
    unittest.main()
