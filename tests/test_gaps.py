"""Points 59 to 62: rules of gaps, least and greatest places, rows and rings."""

import unittest
from itertools import product
from random import Random

from chipfloor.errors import BadGaps, BadNumber, HasRing
from chipfloor.gaps import bad_ring, leftmost, obeys, rightmost, slacks, tight_row
from tests import judge
from tests import judge_gaps as plain
from tests.helpers import FloorCase

ALONE = (leftmost, tight_row, bad_ring)
WITH_ROOM = (rightmost, slacks)
CHAIN = ((0, 1, 5), (1, 2, 7), (0, 2, 3))
RING = ((0, 1, 5), (1, 2, -2), (2, 0, -2))


class Rules(FloorCase):
    """Point 59, the errors."""

    def check_all(self, kind, field, many, rules):
        for function in ALONE:
            self.check_error(kind, field, function, many, rules)
        for room in (5, None, -1):
            for function in WITH_ROOM + (obeys,):
                self.check_error(kind, field, function, many, rules, room)

    def test_no_number_of_things(self):
        for value in plain.NO_COUNTS:
            self.check_all(BadNumber, None, value, ())
            self.check_all(BadNumber, None, value, None)

    def test_no_tuple_of_rules(self):
        for value in plain.NO_FORTY:
            self.check_all(BadGaps, ("index", None), 3, value)

    def test_wrong_rules(self):
        for value in plain.NO_RULES:
            self.check_all(BadGaps, ("index", 0), 3, (value,))
            self.check_all(BadGaps, ("index", 1), 3, ((0, 1, 2), value, value))
            self.check_all(BadGaps, ("index", 39), 3, ((0, 1, 2),) * 39 + (value,))
            self.check_all(BadGaps, ("index", 0), 1, (value,))

    def test_ring_is_behind_wrong_rules(self):
        self.check_all(BadGaps, ("index", 3), 3, RING + (None,))

    def test_ring_is_ahead_of_wrong_rooms(self):
        for room in (None, True, -1, 2001, 5):
            for function in WITH_ROOM:
                self.check_error(HasRing, None, function, 3, RING, room)

    def test_wrong_rooms(self):
        for value in judge.ODD_VALUES + (-1, 2001, True, False, "5", 10 ** 30):
            if value.__class__ is not int or value not in range(2001):
                for function in WITH_ROOM:
                    self.check_error(BadNumber, None, function, 3, CHAIN, value)
                    self.check_error(BadNumber, None, function, 1, (), value)

    def test_limits(self):
        rules = ((0, 9, 100), (9, 0, -100)) * 20
        self.assertEqual(leftmost(10, rules), (0,) * 9 + (100,))
        self.assertEqual(rightmost(10, rules, 2000), (1900,) + (2000,) * 9)
        self.assertEqual(rightmost(1, (), 0), (0,))


class Obeys(FloorCase):
    """Point 59."""

    def test_known_ones(self):
        self.assertIs(obeys(3, CHAIN, (0, 5, 12)), True)
        self.assertIs(obeys(3, CHAIN, (-2000, 0, 2000)), True)
        self.assertIs(obeys(3, CHAIN, (0, 5, 11)), False)
        self.assertIs(obeys(3, CHAIN, (0, 4, 12)), False)
        self.assertIs(obeys(3, ((0, 2, 3),), (0, -7, 2)), False)
        self.assertIs(obeys(2, ((0, 1, -3),), (0, -3)), True)
        self.assertIs(obeys(2, ((0, 1, -3),), (0, -4)), False)
        self.assertIs(obeys(1, ((0, 0, 0), (0, 0, -5)), (7,)), True)
        self.assertIs(obeys(1, ((0, 0, 1),), (7,)), False)
        self.assertIs(obeys(3, RING, (0, 0, 0)), False)

    def test_any_value(self):
        for value in judge.ODD_VALUES + ((0,), (0, 0, 0), [0, 0], "00", (0, True), (False, 0), (0, None), (0, "0"),
                                         ((0,), 0), (0, [0]), {0: 0, 1: 0}, (2001, 2001), (0, 2001), (-2001, 0),
                                         (0, 10 ** 30), BadGaps(0), (BadGaps(0), 0)):
            self.assertIs(obeys(2, (), value), False, value)
        self.assertIs(obeys(2, (), (2000, -2000)), True)


class Leftmost(FloorCase):
    """Point 60."""

    def test_known_ones(self):
        self.assertEqual(leftmost(1, ()), (0,))
        self.assertEqual(leftmost(10, ()), (0,) * 10)
        self.assertEqual(leftmost(3, CHAIN), (0, 5, 12))
        self.assertEqual(leftmost(3, CHAIN[::-1]), (0, 5, 12))
        self.assertEqual(leftmost(2, ((0, 1, -5),)), (0, 0))
        self.assertEqual(leftmost(2, ((0, 1, 5), (1, 0, -7))), (0, 5))
        self.assertEqual(leftmost(3, ((0, 1, 9), (1, 2, -4))), (0, 9, 5))
        self.assertEqual(leftmost(2, ((1, 0, 8), (0, 1, -8))), (8, 0))
        self.assertEqual(leftmost(10, tuple((k + 1, k, 100) for k in range(9))), tuple(range(900, -1, -100)))
        self.assertEqual(leftmost(10, tuple((k, k + 1, 100) for k in range(9))), tuple(range(0, 901, 100)))

    def test_rings(self):
        for many, rules in ((1, ((0, 0, 1),)), (2, ((0, 1, 5), (1, 0, -4))), (3, RING), (3, CHAIN + ((2, 0, -11),)),
                            (10, tuple((k, (k + 1) % 10, 0) for k in range(9)) + ((9, 0, 1),)),
                            (10, ((8, 9, 1), (9, 8, 0)))):
            for function in (leftmost, tight_row):
                self.check_error(HasRing, None, function, many, rules)
            for function in WITH_ROOM:
                self.check_error(HasRing, None, function, many, rules, 2000)

    def test_rings_without_gain(self):
        self.assertEqual(leftmost(1, ((0, 0, 0), (0, 0, -1))), (0,))
        self.assertEqual(leftmost(2, ((0, 1, 5), (1, 0, -5))), (0, 5))
        self.assertEqual(leftmost(3, CHAIN + ((2, 0, -12),)), (0, 5, 12))

    def test_random(self):
        source = Random(131)
        rings = 0
        for _ in range(800):
            many = source.randint(1, 10)
            rules = plain.random_rules(source, many, source.choice((5, 12, 40)), -100, source.choice((-50, 0, 30, 100)))
            wanted = plain.plain_leftmost(many, rules)
            if wanted is None:
                rings += 1
                self.check_error(HasRing, None, leftmost, many, rules)
            else:
                self.assertEqual(leftmost(many, rules), wanted, rules)
        self.assertTrue(100 < rings < 700, rings)

    def test_no_others_are_less(self):
        source = Random(132)
        for _ in range(60):
            rules = plain.random_rules(source, 3, 4, -3, 3)
            fit = [places for places in product(range(8), repeat=3) if plain.does_obey(rules, places)]
            if fit:
                self.assertEqual(leftmost(3, rules), tuple(min(each) for each in zip(*fit)), rules)
            else:
                self.check_error(HasRing, None, leftmost, 3, rules)


class Rightmost(FloorCase):
    """Point 61."""

    def test_known_ones(self):
        self.assertEqual(rightmost(3, CHAIN, 20), (8, 13, 20))
        self.assertEqual(slacks(3, CHAIN, 20), (8, 8, 8))
        self.assertEqual(rightmost(3, CHAIN, 12), (0, 5, 12))
        self.assertEqual(slacks(3, CHAIN, 12), (0, 0, 0))
        self.assertIsNone(rightmost(3, CHAIN, 11))
        self.assertIsNone(slacks(3, CHAIN, 11))
        self.assertEqual(rightmost(3, ((0, 1, 5),), 5), (0, 5, 5))
        self.assertEqual(slacks(3, ((0, 1, 5),), 5), (0, 0, 5))
        self.assertEqual(rightmost(1, (), 2000), (2000,))
        self.assertEqual(slacks(2, ((0, 1, -5),), 0), (0, 0))

    def test_random(self):
        source = Random(133)
        found = 0
        for _ in range(800):
            many = source.randint(1, 10)
            rules = plain.random_rules(source, many, source.choice((5, 12, 40)), -100, source.choice((-50, 0, 30, 100)))
            room = source.choice((0, 50, 100, 300, 2000))
            lefts = plain.plain_leftmost(many, rules)
            if lefts is None:
                self.check_error(HasRing, None, rightmost, many, rules, room)
            elif max(lefts) > room:
                self.assertIsNone(rightmost(many, rules, room))
                self.assertIsNone(slacks(many, rules, room))
            else:
                rights = plain.plain_rightmost(many, rules, room)
                self.assertEqual(rightmost(many, rules, room), rights, rules)
                self.assertEqual(slacks(many, rules, room), tuple(b - a for a, b in zip(lefts, rights)), rules)
                found += 1
        self.assertGreater(found, 100)


class TightRow(FloorCase):
    """Point 62."""

    def check_row(self, many, rules):
        answer = tight_row(many, rules)
        self.assertTrue(plain.is_tight_row(many, rules, answer), (rules, answer))

    def test_known_ones(self):
        self.assertEqual(tight_row(1, ()), (0,))
        self.assertEqual(tight_row(3, CHAIN), (0, 1, 2))
        self.assertEqual(len(tight_row(10, ())), 1)
        self.assertEqual(tight_row(10, tuple((k + 1, k, 100) for k in range(9))), tuple(range(9, -1, -1)))

    def test_rings_without_gain_are_no_way(self):
        for rules in ((((1, 2, 5), (2, 1, -5), (0, 1, 10))), ((2, 1, -5), (1, 2, 5), (0, 1, 10)),
                      ((1, 1, 0), (0, 1, 10), (2, 2, 0)), ((0, 2, 15), (2, 1, -5), (1, 2, 5)),
                      ((0, 1, 0), (1, 0, 0), (1, 2, 3), (2, 1, -3), (2, 0, -3), (0, 2, 3))):
            self.check_row(3, rules)

    def test_back_and_forth(self):
        self.assertEqual(tight_row(4, ((0, 1, 50), (1, 2, -20), (2, 3, 40))), (0, 1, 2, 3))
        self.check_row(3, ((0, 1, 50), (1, 2, -20)))

    def test_random(self):
        source = Random(134)
        found = 0
        for _ in range(1200):
            many = source.randint(1, 10)
            rules = plain.random_rules(source, many, source.choice((5, 12, 40)), source.choice((-100, -6, -2)),
                                       source.choice((0, 2, 30, 100)))
            if plain.plain_leftmost(many, rules) is not None:
                found += 1
                self.check_row(many, rules)
        self.assertGreater(found, 200)

    def test_random_potentials(self):
        # Gaps between fixed places leave no ring with a sum above 0, but many with none.
        source = Random(135)
        for _ in range(300):
            many = source.randint(2, 10)
            places = [source.randint(0, 50) for _ in range(many)]
            rules = tuple((one, other, places[other] - places[one] - source.choice((0, 0, 0, 5))) for one, other in
                          [(source.randrange(many), source.randrange(many)) for _ in range(source.randint(0, 40))])
            self.check_row(many, rules)
            self.assertIsNone(bad_ring(many, rules))


class BadRing(FloorCase):
    """Point 62."""

    def test_known_ones(self):
        self.assertIsNone(bad_ring(1, ()))
        self.assertIsNone(bad_ring(1, ((0, 0, 0),)))
        self.assertEqual(bad_ring(1, ((0, 0, 0), (0, 0, 1))), (1,))
        self.assertIsNone(bad_ring(2, ((0, 1, 5), (1, 0, -5))))
        self.assertIn(bad_ring(2, ((0, 1, 5), (1, 0, -4))), ((0, 1), (1, 0)))
        self.assertIn(bad_ring(3, RING), ((0, 1, 2), (1, 2, 0), (2, 0, 1)))
        ring = tuple((k, (k + 1) % 10, 0) for k in range(9)) + ((9, 0, 1),)
        self.assertTrue(plain.is_bad_ring(ring, bad_ring(10, ring)))

    def test_ring_at_the_end_of_a_long_way(self):
        rules = tuple((k, k + 1, -100) for k in range(8)) + ((8, 9, -100), (9, 9, 1))
        self.assertEqual(bad_ring(10, rules), (9,))
        rules = tuple((k, k + 1, 100) for k in range(9)) + ((9, 8, -99),)
        self.assertTrue(plain.is_bad_ring(rules, bad_ring(10, rules)))

    def test_random(self):
        source = Random(136)
        rings = 0
        for _ in range(1200):
            many = source.randint(1, 10)
            rules = plain.random_rules(source, many, source.choice((5, 12, 40)), source.choice((-100, -6, -2)),
                                       source.choice((0, 2, 30, 100)))
            answer = bad_ring(many, rules)
            if plain.plain_leftmost(many, rules) is None:
                rings += 1
                self.assertTrue(plain.is_bad_ring(rules, answer), (rules, answer))
            else:
                self.assertIsNone(answer, rules)
        self.assertTrue(200 < rings < 1000, rings)


if __name__ == "__main__":
    unittest.main()
