"""Points 69 to 72: circuits, lags, periods and their bound."""

import unittest
from fractions import Fraction
from random import Random

from chipfloor.errors import BadCircuit, BadLags, BadNumber
from chipfloor.retimings import lags_for, least_period, period, retimed, ring_bound
from tests import judge
from tests import judge_retimings as plain
from tests.helpers import FloorCase

ALONE = (period, least_period, ring_bound)
THREE = ((1, 2, 3), ((0, 1, 0), (1, 2, 0), (2, 0, 2)))


class Circuits(FloorCase):
    """Point 69, the errors."""

    def check_all(self, field, delays, wires):
        for function in ALONE:
            self.check_error(BadCircuit, field, function, delays, wires)
        for value in ((0, 0), 5, None):
            for function in (retimed, lags_for):
                self.check_error(BadCircuit, field, function, delays, wires, value)

    def test_no_delays(self):
        for value in plain.NO_DELAYS:
            for wires in ((), ((0, 0, 1),), (None,), None):
                self.check_all(("index", None), value, wires)

    def test_no_wires(self):
        for value in plain.NO_LISTS:
            self.check_all(("index", None), (1, 2), value)

    def test_wrong_wires(self):
        for value in plain.NO_WIRES:
            self.check_all(("index", 0), (1, 2), (value,))
            self.check_all(("index", 0), (1,), (value,))
            self.check_all(("index", 1), (1, 2), ((0, 1, 1), value, value))
            self.check_all(("index", 19), (1, 2), ((0, 1, 1),) * 19 + (value,))

    def test_rings_without_a_register(self):
        for delays, wires in (((1,), ((0, 0, 0),)), ((0,), ((0, 0, 0),)), ((1, 2), ((0, 1, 0), (1, 0, 0))),
                              ((0, 0), ((0, 1, 0), (1, 0, 3), (1, 0, 0))), ((1,) * 8, ((7, 7, 0),)),
                              ((1,) * 8, tuple((k, (k + 1) % 8, 0) for k in range(8)))):
            self.check_all(("index", None), delays, wires)

    def test_wrong_wires_are_ahead_of_rings(self):
        self.check_all(("index", 2), (1, 2), ((0, 1, 0), (1, 0, 0), None))

    def test_limits(self):
        self.assertEqual(period((50,) * 8, tuple((k, k + 1, 0) for k in range(7)) + ((7, 0, 9),) * 13), 400)
        self.assertEqual(period((0,), ()), 0)


class Periods(FloorCase):
    """Point 69."""

    def test_known_ones(self):
        self.assertEqual(period((7,), ()), 7)
        self.assertEqual(period((7, 9), ()), 9)
        self.assertEqual(period((7, 9), ((0, 1, 1),)), 9)
        self.assertEqual(period((7, 9), ((0, 1, 1), (0, 1, 0))), 16)
        self.assertEqual(period(*THREE), 6)
        self.assertEqual(period((1, 2, 3), ((0, 1, 0), (1, 2, 1), (0, 2, 0))), 4)
        self.assertEqual(period((7,), ((0, 0, 1),)), 7)
        self.assertEqual(period((5, 0, 5), ((2, 1, 0), (1, 0, 0))), 10)

    def test_random(self):
        source = Random(161)
        for _ in range(300):
            delays, wires = plain.random_circuit(source, source.randint(1, 6), 12, 50, 2)
            self.assertEqual(period(delays, wires), plain.plain_period(delays, wires), (delays, wires))


class Lags(FloorCase):
    """Point 70."""

    def test_known_ones(self):
        self.assertEqual(retimed(*THREE, (0, 0, 1)), ((0, 1, 0), (1, 2, 1), (2, 0, 1)))
        self.assertEqual(retimed(*THREE, (99, 99, 99)), THREE[1])
        self.assertEqual(retimed(*THREE, (-99, -99, -98)), ((0, 1, 0), (1, 2, 1), (2, 0, 1)))
        self.assertEqual(retimed((1,), (), (5,)), ())
        self.assertEqual(retimed((1,), ((0, 0, 3),), (5,)), ((0, 0, 3),))

    def test_many_registers(self):
        self.assertEqual(retimed((1, 1), ((0, 1, 9),), (-99, 99)), ((0, 1, 207),))
        self.check_error(BadLags, None, retimed, (1, 1), ((0, 1, 9),), (99, 0))
        self.assertEqual(retimed((1, 1), ((0, 1, 9),), (9, 0)), ((0, 1, 0),))
        self.check_error(BadLags, None, retimed, (1, 1), ((0, 1, 9),), (10, 0))

    def test_no_lags(self):
        for value in plain.NO_LAGS:
            self.check_error(BadLags, None, retimed, (1, 2), ((0, 1, 5),), value)
            self.check_error(BadLags, None, retimed, (1, 2), (), value)

    def test_less_than_no_register(self):
        self.check_error(BadLags, None, retimed, *THREE, (1, 0, 0))
        self.check_error(BadLags, None, retimed, *THREE, (0, 0, 3))
        self.check_error(BadLags, None, retimed, *THREE, (0, -1, 0))

    def test_random(self):
        source = Random(162)
        wrong = 0
        for _ in range(400):
            delays, wires = plain.random_circuit(source, source.randint(1, 4), 6, 50, 3)
            lags = tuple(source.randint(-1, 2) for _ in delays)
            if plain.are_lags(len(delays), wires, lags):
                self.assertEqual(retimed(delays, wires, lags), plain.with_lags(wires, lags))
            else:
                wrong += 1
                self.check_error(BadLags, None, retimed, delays, wires, lags)
        self.assertTrue(50 < wrong < 350, wrong)


class LeastPeriods(FloorCase):
    """Point 71."""

    def check_goals(self, delays, wires, wanted, goals):
        for goal in goals:
            lags = lags_for(delays, wires, goal)
            if goal < wanted:
                self.assertIsNone(lags, (delays, wires, goal))
            else:
                self.assertTrue(plain.are_lags(len(delays), wires, lags), (delays, wires, goal, lags))
                self.assertLessEqual(plain.plain_period(delays, plain.with_lags(wires, lags)), goal)

    def check_least(self, delays, wires, wanted):
        answer = least_period(delays, wires)
        self.assertIsInstance(answer, tuple)
        least, lags = answer
        self.assertEqual(least, wanted, (delays, wires))
        self.assertTrue(plain.are_lags(len(delays), wires, lags), (delays, wires, lags))
        self.assertEqual(plain.plain_period(delays, plain.with_lags(wires, lags)), least, (delays, wires, lags))

    def test_wrong_goals(self):
        for value in judge.ODD_VALUES + (-1, 401, True, False, "5", 10 ** 30):
            if value.__class__ is not int or value not in range(401):
                self.check_error(BadNumber, None, lags_for, *THREE, value)
                self.check_error(BadNumber, None, lags_for, (0,), (), value)

    def test_known_ones(self):
        self.check_least(*THREE, 3)
        self.check_goals(*THREE, 3, (0, 1, 2, 3, 4, 5, 6, 400))
        self.check_least((0,), (), 0)
        self.check_goals((0,), (), 0, (0, 400))
        self.check_least((7,), ((0, 0, 9),), 7)
        self.check_goals((7,), ((0, 0, 9),), 7, (0, 6, 7, 400))

    def test_registers_from_one_end_to_the_other(self):
        # Seven registers at the end of a chain of eight gates are enough for one between each two.
        wires = tuple((k, k + 1, 0) for k in range(7))
        self.check_least((50,) * 8, wires, 50)
        self.check_least((50,) * 8, wires + ((7, 0, 7),), 100)
        self.check_least((50,) * 8, wires + ((7, 0, 8),), 50)
        self.check_least((50,) * 8, wires + ((7, 0, 1),), 400)
        self.check_goals((50,) * 8, wires + ((7, 0, 4),), 100, (49, 50, 99, 100, 149, 150, 399, 400))

    def test_gates_without_delay(self):
        self.check_least((0, 0, 0), ((0, 1, 0), (1, 2, 0), (2, 0, 1)), 0)
        self.check_least((5, 0, 5), ((0, 1, 0), (1, 2, 0), (2, 0, 1)), 10)
        self.check_least((5, 0, 5), ((0, 1, 0), (1, 2, 0), (2, 0, 2)), 5)

    def test_random(self):
        source = Random(163)
        better = 0
        for _ in range(300):
            many = source.randint(1, 4)
            delays, wires = plain.random_circuit(source, many, 8, source.choice((3, 50)), source.choice((1, 2, 4)))
            wanted = plain.plain_least_period(delays, wires)
            better += wanted < plain.plain_period(delays, wires)
            self.check_least(delays, wires, wanted)
            self.check_goals(delays, wires, wanted, (0, max(wanted - 1, 0), wanted, min(wanted + 7, 400), 400))
        self.assertGreater(better, 30)

    def test_five_gates(self):
        source = Random(164)
        for _ in range(12):
            delays, wires = plain.random_circuit(source, 5, 10, 9, 2)
            wanted = plain.plain_least_period(delays, wires)
            self.check_least(delays, wires, wanted)
            self.check_goals(delays, wires, wanted, (max(wanted - 1, 0), wanted))


class RingBound(FloorCase):
    """Point 72."""

    def test_known_ones(self):
        self.assertIsNone(ring_bound((7,), ()))
        self.assertIsNone(ring_bound((7, 9), ((0, 1, 0), (0, 1, 3))))
        self.assertEqual(ring_bound((7,), ((0, 0, 2),)), (7, 2))
        self.assertEqual(ring_bound((8,), ((0, 0, 6),)), (4, 3))
        self.assertEqual(ring_bound((0,), ((0, 0, 9),)), (0, 1))
        self.assertEqual(ring_bound((0, 5), ((0, 0, 9),)), (0, 1))
        self.assertEqual(ring_bound(*THREE), (3, 1))
        self.assertEqual(ring_bound((1, 2), ((0, 1, 4), (0, 1, 2), (1, 0, 5), (1, 0, 1))), (1, 1))
        self.assertEqual(ring_bound((1, 2, 30), ((0, 1, 1), (1, 0, 1), (1, 2, 9), (2, 1, 9))), (16, 9))

    def test_no_gate_twice(self):
        # Around both rings at once there is no more than around the better one.
        self.assertEqual(ring_bound((6, 1, 1), ((0, 1, 1), (1, 0, 1), (0, 2, 1), (2, 0, 3))), (7, 2))

    def test_random(self):
        source = Random(165)
        none = 0
        for _ in range(300):
            delays, wires = plain.random_circuit(source, source.randint(1, 6), 12, 50, 4)
            wanted = plain.plain_ring_bound(delays, wires)
            if wanted is None:
                none += 1
                self.assertIsNone(ring_bound(delays, wires), (delays, wires))
            else:
                self.assertEqual(ring_bound(delays, wires), (wanted.numerator, wanted.denominator), (delays, wires))
                self.assertLessEqual(wanted, least_period(delays, wires)[0])
        self.assertTrue(20 < none < 250, none)

    def test_eight_gates(self):
        source = Random(166)
        for _ in range(10):
            delays = tuple(source.randint(0, 50) for _ in range(8))
            wires = tuple((source.randrange(8), source.randrange(8), source.randint(1, 9)) for _ in range(20))
            wanted = plain.plain_ring_bound(delays, wires)
            answer = ring_bound(delays, wires)
            self.assertEqual(None if answer is None else Fraction(*answer), wanted, (delays, wires))


if __name__ == "__main__":
    unittest.main()
