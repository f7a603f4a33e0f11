"""Points 66 to 68: wires with loads, drivers, buffers, slacks."""

import unittest
from random import Random

from chipfloor.buffers import best_buffers, delay_to, slack_of
from chipfloor.errors import BadBuffer, BadWires
from tests import judge_buffers as plain
from tests.helpers import FloorCase

ONE = plain.ONE
TWO = (ONE, (1, 1, 1, 1, 60))
BUFFER = (1, 2, 3)
FULL = (1000,) * 4


class Wires(FloorCase):
    """Point 66."""

    def check_all(self, field, wires):
        for driver, buffer, spots in ((1, BUFFER, ()), (None, None, None), (1, BUFFER, None)):
            self.check_error(BadWires, field, slack_of, wires, driver, buffer, spots)
            self.check_error(BadWires, field, best_buffers, wires, driver, buffer)
            self.check_error(BadWires, field, delay_to, wires, driver, 1)
            self.check_error(BadWires, field, delay_to, wires, driver, None)

    def test_no_lists(self):
        for value in plain.NO_LISTS:
            self.check_all(("index", None), value)

    def test_wrong_nodes(self):
        for value in plain.NO_WIRES:
            self.check_all(("index", 0), (value,))
            self.check_all(("index", 1), (ONE, value, value))
            self.check_all(("index", 7), (ONE,) * 7 + (value,))

    def test_parents(self):
        for at in range(8):
            wires = tuple((k,) + ONE[1:] for k in range(at))
            self.assertIsInstance(delay_to(wires + ((at,) + ONE[1:],), 0, at + 1), int)
            self.check_all(("index", at), wires + ((at + 1,) + ONE[1:],))

    def test_no_drivers(self):
        for value in plain.NO_AMOUNTS:
            self.check_error(BadBuffer, None, slack_of, TWO, value, BUFFER, ())
            self.check_error(BadBuffer, None, slack_of, TWO, value, None, None)
            self.check_error(BadBuffer, None, best_buffers, TWO, value, BUFFER)
            self.check_error(BadBuffer, None, delay_to, TWO, value, 1)
            self.check_error(BadBuffer, None, delay_to, TWO, value, None)

    def test_no_buffers(self):
        for value in plain.NO_BUFFERS:
            self.check_error(BadBuffer, None, slack_of, TWO, 1, value, ())
            self.check_error(BadBuffer, None, slack_of, TWO, 1, value, None)
            self.check_error(BadBuffer, None, best_buffers, TWO, 1, value)

    def test_no_spots(self):
        for value in plain.NO_SPOTS:
            self.check_error(BadWires, ("index", None), slack_of, TWO, 1, BUFFER, value)

    def test_no_nodes(self):
        for value in plain.NO_AMOUNTS + (0, 3, 8, None, (1,), True):
            self.check_error(BadWires, ("index", None), delay_to, TWO, 1, value)


class Delays(FloorCase):
    """Point 67."""

    def test_one_node(self):
        # The driver sees 4 + 3, the wire half of 4, and 3.
        self.assertEqual(delay_to((ONE,), 0, 1), 2 * 2 * (2 + 3))
        self.assertEqual(delay_to((ONE,), 10, 1), 2 * (10 * 7 + 2 * 5))
        self.assertEqual(slack_of((ONE,), 10, BUFFER, ()), 2 * (50 - 80))
        # With a buffer, the driver sees 4 + 1, the wire half of 4, and 1, the buffer 3.
        self.assertEqual(slack_of((ONE,), 10, BUFFER, (1,)), 2 * (50 - 10 * 5 - 2 * 3 - 3 - 2 * 3))

    def test_odd_capacitance(self):
        self.assertEqual(delay_to(((0, 1, 1, 0, 0),), 0, 1), 1)
        self.assertEqual(slack_of(((0, 1, 1, 0, 0),), 0, BUFFER, ()), -1)

    def test_two_nodes(self):
        self.assertEqual(delay_to(TWO, 10, 1), 2 * (10 * 9 + 2 * (2 + 5)))
        self.assertEqual(delay_to(TWO, 10, 2), 2 * (10 * 9 + 2 * (2 + 5)) + 1 * (1 + 2))
        self.assertEqual(slack_of(TWO, 10, BUFFER, ()), 120 - delay_to(TWO, 10, 2))
        self.assertEqual(slack_of(TWO, 10, BUFFER, (1,)), 120 - 2 * (10 * 5 + 2 * 3 + 3 + 2 * 5) - 3)

    def test_limits_of_ends_alone_count(self):
        wires = ((0, 0, 0, 0, 0), (1, 0, 0, 0, 7), (1, 0, 0, 0, 9))
        self.assertEqual(slack_of(wires, 0, (0, 0, 0), ()), 14)
        self.assertEqual(slack_of(wires[:2], 0, (0, 0, 0), ()), 14)
        self.assertEqual(slack_of(wires[:1], 0, (0, 0, 0), ()), 0)

    def test_root_has_no_load(self):
        wires = ((0, 0, 0, 5, 100), (0, 0, 0, 6, 100))
        self.assertEqual((delay_to(wires, 3, 1), delay_to(wires, 3, 2)), (66, 66))

    def test_greatest_numbers(self):
        wires = tuple((k,) + FULL for k in range(8))
        self.assertEqual(delay_to(wires, 1000, 8), 2 * plain.delay(wires, 1000, (0, 0, 0), (), 8))
        for spots in ((), (8,), tuple(range(1, 9))):
            self.assertEqual(slack_of(wires, 1000, FULL[1:], spots), plain.slack(wires, 1000, FULL[1:], spots))

    def test_zeros(self):
        self.assertEqual(delay_to(((0, 0, 0, 0, 0),), 0, 1), 0)
        self.assertEqual(best_buffers(((0, 0, 0, 0, 0),), 0, (0, 0, 0))[0], 0)

    def test_random(self):
        source = Random(151)
        for _ in range(400):
            many, most = source.randint(1, 8), source.choice((5, 30, 1000))
            wires = plain.random_wires(source, many, most)
            driver, buffer = source.randint(0, most), tuple(source.randint(0, most) for _ in range(3))
            spots = source.choice(plain.all_spots(many))
            answer = slack_of(wires, driver, buffer, spots)
            self.assertIs(answer.__class__, int)
            self.assertEqual(answer, plain.slack(wires, driver, buffer, spots), (wires, driver, buffer, spots))
            for node in range(1, many + 1):
                answer = delay_to(wires, driver, node)
                self.assertIs(answer.__class__, int)
                self.assertEqual(answer, 2 * plain.delay(wires, driver, (0, 0, 0), (), node), (wires, driver, node))


class Best(FloorCase):
    """Point 68."""

    def check_best(self, wires, driver, buffer):
        slack, spots = best_buffers(wires, driver, buffer)
        self.assertIn(spots, plain.all_spots(len(wires)), (wires, driver, buffer))
        self.assertEqual(plain.slack(wires, driver, buffer, spots), slack, (wires, driver, buffer))
        return (slack, spots)

    def test_known_ones(self):
        self.assertEqual(best_buffers((ONE,), 10, BUFFER), (-30, (1,)))
        self.assertEqual(best_buffers((ONE,), 10, (1000, 2, 3))[1], ())
        # A heavy load beside a hurried end is put behind a buffer.
        wires = ((0, 0, 0, 1, 20), (0, 0, 0, 900, 1000))
        self.assertEqual(best_buffers(wires, 5, (1, 1, 0)), (20, (2,)))

    def test_random(self):
        source = Random(152)
        kept = {}
        for _ in range(60):
            many, most = source.randint(1, 6), source.choice((5, 30, 1000))
            wires = plain.random_wires(source, many, most)
            driver, buffer = source.randint(0, most), tuple(source.randint(0, max(most // 10, 2)) for _ in range(3))
            slack, spots = self.check_best(wires, driver, buffer)
            self.assertEqual(slack, max(plain.slack(wires, driver, buffer, each) for each in plain.all_spots(many)))
            kept[len(spots)] = True
        self.assertGreater(len(kept), 2)

    def test_eight_nodes(self):
        source = Random(153)
        for _ in range(3):
            wires = plain.random_wires(source, 8, 40)
            slack, _ = self.check_best(wires, 20, (2, 3, 4))
            self.assertEqual(slack, max(plain.slack(wires, 20, (2, 3, 4), each) for each in plain.all_spots(8)))


if __name__ == "__main__":
    unittest.main()
