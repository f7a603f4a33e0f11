"""Points 37 to 40: ends, topologies, clocks with the least wire and the best topologies."""

import unittest
from fractions import Fraction
from math import gcd
from random import Random

from chipfloor.clocks import best_topology, least_wire, placed
from chipfloor.errors import BadPins, BadTopology
from tests import judge
from tests import judge_points as plain
from tests.helpers import FloorCase

TWO = ((0, 0), (3, 0))
SIX = ((0, 0), (40, 0), (0, 40), (40, 40), (20, 20), (20, 20))
OF_CLOCKS = (least_wire, placed)


def random_ends(source, many, most):
    return tuple((source.randint(0, most), source.randint(0, most)) for _ in range(many))


class Ends(FloorCase):
    """Point 37."""

    def test_no_ends(self):
        for value in plain.NO_SIX:
            for function in OF_CLOCKS:
                self.check_error(BadPins, ("index", None), function, value, 0)
                self.check_error(BadPins, ("index", None), function, value, None)
            self.check_error(BadPins, ("index", None), best_topology, value)

    def test_wrong_points(self):
        for value in plain.NO_POINTS:
            for function in OF_CLOCKS:
                self.check_error(BadPins, ("index", 0), function, (value,), 0)
                self.check_error(BadPins, ("index", 1), function, ((0, 0), value), None)
                self.check_error(BadPins, ("index", 5), function, SIX[:5] + (value,), None)
            self.check_error(BadPins, ("index", 0), best_topology, (value,))
            self.check_error(BadPins, ("index", 1), best_topology, ((0, 0), value, value))

    def test_equal_ends(self):
        self.assertEqual(least_wire(((3, 4), (3, 4)), (1, 0)), ((0, 1), (0, 1)))

    def test_no_topologies(self):
        wrong = judge.ODD_VALUES + (
            0, 1, 2, (0,), (0, 0), (1, 1), (0, 2), (0, -1), (0, 1, 1), (0, (1,)), (0, (1, 1)), ((0, 1), 1), ((0, 1), 0),
            ((0, 1), (0, 1)), [0, 1], (0, [1]), "01", ("0", "1"), (0, True), (False, 1), (0, None), (0, ()), ((), (0, 1)),
            (None, (0, 1)), (0, 10 ** 30), {0: 1}, (0, {}), BadTopology("x"), (0, BadTopology("x")))
        for value in wrong:
            for function in OF_CLOCKS:
                self.check_error(BadTopology, None, function, TWO, value)

    def test_no_topology_of_one_end(self):
        for value in (True, False, 1, -1, None, "0", (0,), (0, 0), [0], ((0,),), (0, None)):
            for function in OF_CLOCKS:
                self.check_error(BadTopology, None, function, ((3, 3),), value)

    def test_no_topology_of_three_ends(self):
        for value in ((0, 1), (0, 1, 2), ((0, 1, 2),), ((0, 1), (2,)), ((0, 1), (2, 2)), ((0, 1), (1, 2)),
                      (((0, 1), 2), 2), ((0, (1, 3)), 2), (0, (1, True))):
            for function in OF_CLOCKS:
                self.check_error(BadTopology, None, function, ((3, 3), (4, 4), (5, 5)), value)

    def test_deep_values(self):
        deep = wide = 0
        for _ in range(100000):
            deep = (deep, 1)
            wide = (wide, wide)
        for value in (deep, wide, (1, deep), (1, wide)):
            for ends in (TWO, SIX):
                for function in OF_CLOCKS:
                    # Python could not show such a value if check_error told of it.
                    with self.assertRaises(BadTopology):
                        function(ends, value)


class LeastWire(FloorCase):
    """Point 38."""

    def check_wire(self, ends, topology):
        wire, delay = plain.plain_wire(ends, topology)
        self.assertEqual(least_wire(ends, topology), (plain.as_pair(wire), plain.as_pair(delay)), (ends, topology))

    def test_example(self):
        self.assertEqual(least_wire(TWO, (0, 1)), ((3, 1), (3, 2)))

    def test_one_end(self):
        self.assertEqual(least_wire(((5, 9),), 0), ((0, 1), (0, 1)))

    def test_longer_than_the_shortest_way(self):
        # The two far ends are joined first, half way, so the wire to the third one, right there, goes around.
        self.assertEqual(least_wire(((0, 0), (10, 0), (5, 0)), ((0, 1), 2)), ((15, 1), (5, 1)))
        self.assertEqual(least_wire(((0, 0), (10, 0), (5, 0)), ((0, 2), 1)), ((25, 2), (5, 1)))

    def test_ratios(self):
        self.assertEqual(least_wire(((0, 0), (1, 0)), (1, 0)), ((1, 1), (1, 2)))
        self.assertEqual(least_wire(((0, 0), (2, 0)), (1, 0)), ((2, 1), (1, 1)))
        self.assertEqual(least_wire(((0, 0), (40, 40)), (0, 1)), ((80, 1), (40, 1)))

    def test_all_topologies_of_few_ends(self):
        source = Random(81)
        for many in (1, 2, 3, 4):
            for topology in plain.all_topologies(tuple(range(many))):
                self.check_wire(random_ends(source, many, source.choice((3, 40))), topology)

    def test_random(self):
        source = Random(82)
        for _ in range(300):
            many = source.randint(5, 6)
            self.check_wire(random_ends(source, many, source.choice((2, 9, 40))),
                            plain.random_topology(source, list(range(many))))


class Placed(FloorCase):
    """Point 39."""

    def as_fraction(self, pair):
        self.assertIsInstance(pair, tuple)
        self.assertEqual([part.__class__ for part in pair], [int, int])
        self.assertGreater(pair[1], 0)
        self.assertEqual(gcd(*pair), 1, pair)
        return Fraction(*pair)

    def check_placed(self, ends, topology):
        nodes = placed(ends, topology)
        self.assertIsInstance(nodes, list)
        self.assertEqual([node.__class__ for node in nodes], [tuple] * len(nodes))
        self.assertEqual([node[0] for node in nodes], plain.parts_below(topology), (ends, topology))
        self.assertEqual(nodes[0][3], (0, 1))
        rows = [(part,) + tuple(self.as_fraction(pair) for pair in rest) for part, *rest in nodes]
        wire, delay = plain.plain_wire(ends, topology)
        self.assertEqual(sum(row[3] for row in rows), wire, (ends, topology, nodes))
        self.assertEqual(self.check_below(ends, rows), {delay}, (ends, topology, nodes))

    def check_below(self, ends, rows):
        """The set of the lengths of the ways from the first node to the ends."""
        topology, across, up, _ = rows[0]
        if isinstance(topology, int):
            self.assertEqual((across, up), ends[topology])
            return {0}
        found = set()
        at = 1
        for part in topology:
            many = len(plain.parts_below(part))
            below = rows[at:at + many]
            self.assertLessEqual(abs(across - below[0][1]) + abs(up - below[0][2]), below[0][3], rows)
            found |= {below[0][3] + length for length in self.check_below(ends, below)}
            at += many
        return found

    def test_one_end(self):
        self.assertEqual(placed(((5, 9),), 0), [(0, (5, 1), (9, 1), (0, 1))])

    def test_only_answer(self):
        self.assertEqual(placed(TWO, (1, 0)), [((1, 0), (3, 2), (0, 1), (0, 1)), (1, (3, 1), (0, 1), (3, 2)),
                                               (0, (0, 1), (0, 1), (3, 2))])

    def test_equal_ends(self):
        self.assertEqual(placed(((3, 4), (3, 4)), (0, 1)), [((0, 1), (3, 1), (4, 1), (0, 1)), (0, (3, 1), (4, 1), (0, 1)),
                                                            (1, (3, 1), (4, 1), (0, 1))])

    def test_all_topologies_of_few_ends(self):
        source = Random(83)
        for many in (1, 2, 3, 4):
            for topology in plain.all_topologies(tuple(range(many))):
                self.check_placed(random_ends(source, many, source.choice((3, 40))), topology)

    def test_random(self):
        source = Random(84)
        for _ in range(200):
            many = source.randint(5, 6)
            self.check_placed(random_ends(source, many, source.choice((2, 9, 40))),
                              plain.random_topology(source, list(range(many))))

    def test_list_is_new(self):
        first = placed(TWO, (0, 1))
        first.clear()
        self.assertEqual(len(placed(TWO, (0, 1))), 3)


class BestTopology(FloorCase):
    """Point 40."""

    def check_best(self, ends):
        answer = best_topology(ends)
        self.assertIsInstance(answer, tuple)
        wire, topology = answer
        wanted = min(plain.plain_wire(ends, each)[0] for each in plain.all_topologies(tuple(range(len(ends)))))
        self.assertEqual(wire, plain.as_pair(wanted), ends)
        self.assertEqual(sorted(plain.ends_of(topology)), list(range(len(ends))), (ends, topology))
        self.assertEqual(least_wire(ends, topology)[0], wire, (ends, topology))

    def test_few_ends(self):
        self.assertEqual(best_topology(((7, 9),)), ((0, 1), 0))
        self.assertEqual(best_topology(TWO)[0], (3, 1))
        self.assertEqual(best_topology(((0, 0), (9, 9), (1, 0), (9, 8)))[0], (19, 1))

    def test_random(self):
        source = Random(85)
        for many, times in ((2, 5), (3, 10), (4, 6), (5, 2)):
            for _ in range(times):
                self.check_best(random_ends(source, many, source.choice((4, 40))))

    def test_too_many(self):
        self.check_error(BadPins, ("index", None), best_topology, SIX)
        self.check_error(BadPins, ("index", None), best_topology, SIX + ((1, 1),))

    def test_equal_arguments_have_equal_results(self):
        self.assertEqual(best_topology(SIX[:5]), best_topology(tuple([tuple(list(end)) for end in SIX[:5]])))


if __name__ == "__main__":
    unittest.main()
