"""Points 29 to 31: rivers, their wires and shifts."""

import unittest
from itertools import combinations
from random import Random

from chipfloor.errors import BadNumber, BadPins
from chipfloor.rivers import best_shift, is_river, river_height, shifts, wires
from tests import judge
from tests.helpers import FloorCase

EIGHT = tuple(range(8))
FAR_EIGHT = tuple(range(33, 41))
NO_NUMBERS = tuple(value for value in judge.ODD_VALUES if value.__class__ is not int or value not in range(9)) + (9, -1)


def random_river(source, most_place=40):
    many = source.randint(0, min(8, most_place + 1))
    return tuple(tuple(sorted(source.sample(range(most_place + 1), many))) for _ in range(2))


def all_rivers(many, most_place):
    rows = list(combinations(range(most_place + 1), many))
    return [(lows, highs) for lows in rows for highs in rows]


def obeys(lows, highs, height):
    """The rule of point 29."""
    return all(highs[k] - lows[i] >= height and lows[k] - highs[i] >= height
               for i in range(len(lows)) for k in range(len(lows)) if k == i + height)


def plain_height(lows, highs):
    return min(height for height in range(9) if obeys(lows, highs, height))


def boxes(wire):
    """Each step of a wire as a thin box (left, low, right, high)."""
    return [(min(x, u), min(y, v), max(x, u), max(y, v)) for (x, y), (u, v) in zip(wire, wire[1:])]


def have_common_point(one, other):
    return any(a[0] <= b[2] and b[0] <= a[2] and a[1] <= b[3] and b[1] <= a[3] for a in boxes(one) for b in boxes(other))


def is_plain_river(lows, highs, height, value):
    """Of a tuple of tuples of pairs of integers."""
    if len(value) != len(lows):
        return False
    for wire, low, high in zip(value, lows, highs):
        if wire[:1] != ((low, 0),) or wire[-1:] != ((high, height + 1),):
            return False
        if any(not 1 <= corner[1] <= height for corner in wire[1:-1]):
            return False
        if any(not -40 <= corner[0] <= 80 for corner in wire):
            return False
        if any(x != u and y != v for (x, y), (u, v) in zip(wire, wire[1:])):
            return False
    return not any(have_common_point(one, other) for one, other in combinations(value, 2))


class Pins(FloorCase):
    """Point 29, the errors."""

    def check_all(self, index, lows, highs):
        for function in (river_height, wires, best_shift):
            self.check_error(BadPins, ("index", index), function, lows, highs)
        for height in (0, 9, None):
            self.check_error(BadPins, ("index", index), shifts, lows, highs, height)
            self.check_error(BadPins, ("index", index), is_river, lows, highs, height, ())

    def test_no_rows(self):
        for value in (None, True, 0, "", "0", [], [0], {}, {0: 0}, tuple(range(9)), BadPins(0)):
            self.check_all(None, value, (1,))
            self.check_all(None, (1,), value)
            self.check_all(None, value, (41,))

    def test_unlike_lengths(self):
        self.check_all(None, (1,), ())
        self.check_all(None, (), (1,))
        self.check_all(None, (1, 2), (1,))
        self.check_all(None, EIGHT, tuple(range(9)))
        self.check_all(None, EIGHT, EIGHT[:7])

    def test_wrong_places(self):
        for value in judge.ODD_VALUES + (-1, 41):
            if value.__class__ is not int or value not in range(41):
                self.check_all(0, (value,), (1,))
                self.check_all(0, (1,), (value,))
                self.check_all(1, (0, value), (1, 2))
                self.check_all(1, (1, 2), (0, value))
        self.check_all(7, EIGHT[:7] + (41,), EIGHT)
        self.check_all(7, EIGHT, EIGHT[:7] + (41,))

    def test_not_ascending(self):
        self.check_all(1, (3, 3), (1, 2))
        self.check_all(1, (1, 2), (3, 2))
        self.check_all(2, (3, 4, 4), (1, 2, 3))
        self.check_all(2, (1, 2, 3), (3, 4, 0))
        self.check_all(1, (0, True), (0, 1))

    def test_first_row_ahead_of_second_one(self):
        self.check_all(1, (3, 3), (41, 1))
        self.check_all(0, (41,), ())
        self.check_all(0, (41,), None)
        self.check_all(None, (0, 1), (41,))

    def test_no_height(self):
        for value in NO_NUMBERS:
            self.check_error(BadNumber, None, shifts, (1,), (1,), value)
            self.check_error(BadNumber, None, shifts, (), (), value)
            self.check_error(BadNumber, None, is_river, (1,), (1,), value, ())
            self.check_error(BadNumber, None, is_river, (1,), (1,), value, None)


class RiverHeight(FloorCase):
    """Point 29."""

    def test_known_ones(self):
        self.assertEqual(river_height((), ()), 0)
        self.assertEqual(river_height((0,), (0,)), 0)
        self.assertEqual(river_height((0,), (40,)), 1)
        self.assertEqual(river_height((40,), (0,)), 1)
        self.assertEqual(river_height((0, 5), (0, 6)), 1)
        self.assertEqual(river_height((0, 1), (1, 2)), 2)
        self.assertEqual(river_height((1, 2), (0, 1)), 2)
        self.assertEqual(river_height((0, 2), (1, 3)), 1)
        self.assertEqual(river_height(EIGHT, EIGHT), 0)
        self.assertEqual(river_height(EIGHT, FAR_EIGHT), 8)
        self.assertEqual(river_height(FAR_EIGHT, EIGHT), 8)
        self.assertEqual(river_height(EIGHT, tuple(k + 1 for k in EIGHT)), 8)

    def test_all_small_rivers(self):
        for many in range(5):
            for lows, highs in all_rivers(many, 5):
                self.assertEqual(river_height(lows, highs), plain_height(lows, highs), (lows, highs))

    def test_random(self):
        source = Random(61)
        for most_place in (8, 12, 20, 40):
            for _ in range(200):
                lows, highs = random_river(source, most_place)
                self.assertEqual(river_height(lows, highs), plain_height(lows, highs), (lows, highs))


class Wires(FloorCase):
    """Point 30, wires."""

    def check_wires(self, lows, highs):
        height = plain_height(lows, highs)
        value = wires(lows, highs)
        self.assertIsInstance(value, tuple)
        for wire in value:
            self.assertIsInstance(wire, tuple)
            for corner in wire:
                self.assertIsInstance(corner, tuple)
                self.assertEqual([part.__class__ for part in corner], [int, int])
            for one, corner, other in zip(wire, wire[1:], wire[2:]):
                self.assertFalse(one[0] == corner[0] == other[0] or one[1] == corner[1] == other[1], (lows, highs, wire))
            across = [corner[0] for corner in wire]
            self.assertIn(across, (sorted(across), sorted(across)[::-1]), (lows, highs, wire))
        self.assertTrue(is_plain_river(lows, highs, height, value), (lows, highs, value))
        self.assertIs(is_river(lows, highs, height, value), True, (lows, highs, value))

    def test_only_answers(self):
        self.assertEqual(wires((), ()), ())
        self.assertEqual(wires((3,), (3,)), (((3, 0), (3, 1)),))
        self.assertEqual(wires((3,), (5,)), (((3, 0), (3, 1), (5, 1), (5, 2)),))
        self.assertEqual(wires((3, 9), (5, 9)), (((3, 0), (3, 1), (5, 1), (5, 2)), ((9, 0), (9, 2))))

    def test_eight(self):
        for lows, highs in ((EIGHT, EIGHT), (EIGHT, FAR_EIGHT), (FAR_EIGHT, EIGHT), (EIGHT, tuple(k + 1 for k in EIGHT)),
                            (EIGHT[:4] + FAR_EIGHT[:4], tuple(range(16, 24))),
                            (tuple(range(16, 24)), EIGHT[:4] + FAR_EIGHT[:4])):
            self.check_wires(lows, highs)

    def test_all_small_rivers(self):
        for many in range(5):
            for lows, highs in all_rivers(many, 5):
                self.check_wires(lows, highs)

    def test_random(self):
        source = Random(62)
        for most_place in (8, 12, 20, 40):
            for _ in range(150):
                self.check_wires(*random_river(source, most_place))

    def test_equal_arguments_have_equal_results(self):
        self.assertEqual(wires((0, 1, 5), (1, 2, 6)), wires(tuple([0, 1, 5]), tuple([1, 2, 6])))


class IsRiver(FloorCase):
    """Point 30, is_river."""

    def check_one(self, low, high, height, wire, wanted):
        self.assertIs(is_river((low,), (high,), height, (wire,)), wanted, wire)

    def test_no_tuples_of_wires(self):
        wire = ((3, 0), (3, 1))
        for value in judge.ODD_VALUES + ([wire], wire, (list(wire),), ([(3, 0), (3, 1)],), (wire, wire), (wire, None),
                                         ("30",), ({},), (((3, 0), None),), (((3, 0), [3, 1]),), (((3, 0), "31"),)):
            self.assertIs(is_river((3,), (3,), 0, value), False, value)
        self.assertIs(is_river((3,), (3,), 0, (wire,)), True)

    def test_no_pins(self):
        for height in range(9):
            self.assertIs(is_river((), (), height, ()), True)
            self.assertIs(is_river((), (), height, ((),)), False)
            self.assertIs(is_river((), (), height, None), False)

    def test_no_corners(self):
        for value in judge.ODD_VALUES + ((3,), (3, 1, 1), [3, 1], (3, "1"), (True, 1), (3, True), (None, 1), (3, (1,)),
                                         (3, 10 ** 30), (10 ** 30, 1)):
            self.check_one(3, 3, 1, ((3, 0), value, (3, 2)), False)
            self.check_one(3, 3, 1, (value, (3, 0), (3, 2)), False)
            self.check_one(3, 3, 1, ((3, 0), (3, 2), value), False)
        self.check_one(1, 1, 0, ((1, 0), (1, True)), False)
        self.check_one(1, 1, 0, ((1, False), (1, 1)), False)
        self.check_one(1, 1, 0, ((True, 0), (1, 1)), False)

    def test_ends(self):
        self.check_one(3, 3, 1, ((3, 0), (3, 2)), True)
        self.check_one(3, 3, 1, ((3, 0), (3, 1)), False)
        self.check_one(3, 3, 1, ((3, 1), (3, 2)), False)
        self.check_one(3, 3, 1, ((4, 0), (4, 2)), False)
        self.check_one(3, 3, 1, ((3, 2), (3, 0)), False)
        self.check_one(3, 4, 1, ((3, 0), (3, 2)), False)
        self.check_one(3, 3, 1, (), False)
        self.check_one(3, 3, 1, ((3, 0),), False)
        self.check_one(3, 4, 0, ((3, 0), (4, 0), (4, 1)), False)

    def test_heights_between(self):
        self.check_one(3, 4, 1, ((3, 0), (3, 1), (4, 1), (4, 2)), True)
        self.check_one(3, 4, 1, ((3, 0), (4, 0), (4, 2)), False)
        self.check_one(3, 4, 1, ((3, 0), (3, 2), (4, 2)), False)
        self.check_one(3, 4, 2, ((3, 0), (3, 1), (4, 1), (4, 3)), True)
        self.check_one(3, 4, 2, ((3, 0), (3, 2), (4, 2), (4, 3)), True)
        self.check_one(3, 4, 8, ((3, 0), (3, 8), (4, 8), (4, 9)), True)
        self.check_one(3, 4, 2, ((3, 0), (3, 3), (4, 3)), False)
        self.check_one(3, 4, 2, ((3, 0), (3, -1), (4, -1), (4, 3)), False)
        self.check_one(3, 4, 2, ((3, 0), (3, 4), (4, 4), (4, 3)), False)

    def test_steps(self):
        self.check_one(3, 4, 1, ((3, 0), (4, 2)), False)
        self.check_one(3, 4, 1, ((3, 0), (4, 1), (4, 2)), False)
        self.check_one(3, 4, 1, ((3, 0), (3, 1), (4, 2)), False)

    def test_corners_in_line(self):
        self.check_one(3, 5, 2, ((3, 0), (3, 1), (3, 2), (4, 2), (5, 2), (5, 3)), True)

    def test_ways_back(self):
        self.check_one(3, 3, 3, ((3, 0), (3, 1), (6, 1), (6, 2), (2, 2), (2, 3), (3, 3), (3, 4)), True)
        self.check_one(3, 3, 2, ((3, 0), (3, 2), (6, 2), (6, 1), (8, 1), (8, 2), (7, 2)), False)
        self.check_one(3, 3, 1, ((3, 0), (3, 1), (9, 1), (3, 1), (3, 2)), True)

    def test_limits_of_places(self):
        for place, wanted in ((-40, True), (-41, False), (80, True), (81, False)):
            self.check_one(3, 3, 2, ((3, 0), (3, 1), (place, 1), (place, 2), (3, 2), (3, 3)), wanted)
        self.check_one(0, 40, 1, ((0, 0), (0, 1), (40, 1), (40, 2)), True)

    def test_common_points(self):
        straight = ((5, 0), (5, 3))
        for wire, wanted in ((((3, 0), (3, 1), (4, 1), (4, 3)), True), (((3, 0), (3, 1), (5, 1), (5, 2), (4, 2), (4, 3)), False),
                             (((3, 0), (3, 1), (6, 1), (6, 2), (4, 2), (4, 3)), False)):
            self.assertIs(is_river((3, 5), (4, 5), 2, (wire, straight)), wanted, wire)
            self.assertIs(is_river((3, 5), (4, 5), 2, (straight, wire)), False, wire)

    def test_common_points_of_level_steps(self):
        first, second = ((0, 0), (0, 1), (4, 1), (4, 3)), ((2, 0), (2, 1), (6, 1), (6, 3))
        self.assertIs(is_river((0, 2), (4, 6), 2, (first, second)), False)
        first = ((0, 0), (0, 2), (4, 2), (4, 3))
        self.assertIs(is_river((0, 2), (4, 6), 2, (first, second)), True)
        first = ((0, 0), (0, 2), (6, 2), (6, 3))
        self.assertIs(is_river((0, 2), (6, 7), 2, (first, ((2, 0), (2, 1), (7, 1), (7, 3)))), True)
        self.assertIs(is_river((0, 2), (6, 7), 2, (first, ((2, 0), (2, 1), (6, 1), (6, 2), (7, 2), (7, 3)))), False)

    def test_more_tracks_than_needed(self):
        for height in range(9):
            self.assertIs(is_river((3, 4), (3, 4), height, (((3, 0), (3, height + 1)), ((4, 0), (4, height + 1)))), True)

    def test_random(self):
        source = Random(63)
        found = {True: 0, False: 0}
        for _ in range(4000):
            height = source.randint(0, 3)
            many = source.randint(1, 2)
            lows, highs = [tuple(sorted(source.sample(range(6), many))) for _ in range(2)]
            value = tuple(self.random_wire(source, low, high, height) for low, high in zip(lows, highs))
            wanted = is_plain_river(lows, highs, height, value)
            self.assertIs(is_river(lows, highs, height, value), wanted, (lows, highs, height, value))
            found[wanted] += 1
        self.assertGreater(min(found.values()), 500)

    def random_wire(self, source, low, high, height):
        """A wire that may be wrong here and there; no corner stands twice in a row."""
        wire = [(low, 0)]
        if height:
            wire.append((low, source.randint(1, height)))
            for _ in range(source.randint(0, 2)):
                wire.append((source.randint(-1, 6), wire[-1][1]))
                wire.append((wire[-1][0], source.randint(1, height)))
            wire.append((high, wire[-1][1]))
        wire.append((high, height + 1))
        return tuple(corner for at, corner in enumerate(wire) if at == 0 or corner != wire[at - 1])


class Shifts(FloorCase):
    """Point 31."""

    def plain_shifts(self, lows, highs, height):
        """Shifts beyond 100 are as good or bad as 100, all places being from 0 to 40."""
        found = [shift for shift in range(-100, 101) if obeys(lows, tuple(high + shift for high in highs), height)]
        if len(found) == 201:
            return None
        return (found[0], found[-1]) if found else ()

    def test_known_ones(self):
        self.assertIsNone(shifts((), (), 0))
        self.assertEqual(shifts((3,), (5,), 0), (-2, -2))
        self.assertIsNone(shifts((3,), (5,), 1))
        self.assertEqual(shifts((0, 5), (0, 6), 0), ())
        self.assertEqual(shifts((0, 5), (0, 6), 1), (-5, 4))
        self.assertIsNone(shifts((0, 5), (0, 6), 2))
        self.assertEqual(shifts((40,), (0,), 0), (40, 40))
        self.assertEqual(shifts((0,), (40,), 0), (-40, -40))
        self.assertEqual(shifts(EIGHT, EIGHT, 7), (0, 0))
        self.assertIsNone(shifts(EIGHT, EIGHT, 8))

    def test_random(self):
        source = Random(64)
        for most_place in (8, 12, 40):
            for _ in range(60):
                lows, highs = random_river(source, most_place)
                for height in range(9):
                    self.assertEqual(shifts(lows, highs, height), self.plain_shifts(lows, highs, height),
                                     (lows, highs, height))

    def test_best_shift(self):
        self.assertEqual(best_shift((), ()), (0, 0))
        self.assertEqual(best_shift((3,), (5,)), (0, -2))
        self.assertEqual(best_shift((0, 5), (0, 6)), (1, -5))
        self.assertEqual(best_shift(EIGHT, FAR_EIGHT), (0, -33))
        self.assertEqual(best_shift(FAR_EIGHT, EIGHT), (0, 33))

    def test_best_shift_of_random_rivers(self):
        source = Random(65)
        for most_place in (8, 12, 40):
            for _ in range(60):
                lows, highs = random_river(source, most_place)
                heights = [height for height in range(9) if self.plain_shifts(lows, highs, height) != ()]
                limits = self.plain_shifts(lows, highs, heights[0])
                wanted = (heights[0], 0 if limits is None else limits[0])
                self.assertEqual(best_shift(lows, highs), wanted, (lows, highs))


if __name__ == "__main__":
    unittest.main()
