"""Points 73 to 77: mazes and wires through them."""

import unittest
from random import Random

from chipfloor.errors import BadMaze, BadNumber, BadPlace
from chipfloor.mazes import fewest_bends, routed, shortest, two_layers
from tests import judge
from tests import judge_mazes as plain
from tests.helpers import FloorCase

IN_ONE = (shortest, fewest_bends)
FREE = ((0, 0, 0), (0, 0, 0))
WALL = ((0, 1, 0), (0, 1, 0))
DOOR = ((0, 0, 0), (0, 1, 0), (0, 1, 0))
OPEN = ((0,) * 12,) * 12
# One way alone, around and around: 12 rows, free ones joined at their ends.
SNAKE = tuple((0,) * 12 if row % 2 == 0 else (1,) * 11 + (0,) if row % 4 == 1 else (0,) + (1,) * 11 for row in range(12))


class Mazes(FloorCase):
    """Point 73, and the order of errors in points 76 and 77."""

    def test_no_mazes(self):
        for value in plain.NO_MAZES:
            for one, other in (((0, 0), (0, 0)), (None, None)):
                for function in IN_ONE:
                    self.check_error(BadMaze, None, function, value, one, other)
                self.check_error(BadMaze, None, two_layers, value, FREE, one, other, 1)
                self.check_error(BadMaze, None, two_layers, value, None, one, other, None)
            self.check_error(BadMaze, None, routed, value, ())
            self.check_error(BadMaze, None, routed, value, None)

    def test_no_places(self):
        for value in plain.NO_PLACES:
            for one, other in ((value, (0, 0)), ((0, 0), value), (value, None)):
                for function in IN_ONE:
                    self.check_error(BadPlace, None, function, FREE, one, other)
                for over in (FREE, WALL, None, ((0,),)):
                    for via in (1, None):
                        self.check_error(BadPlace, None, two_layers, FREE, over, one, other, via)
                self.check_error(BadPlace, None, routed, FREE, ((one, other),))

    def test_blocked_places(self):
        for one, other in (((0, 1), (0, 0)), ((0, 0), (1, 1)), ((0, 1), (0, 1))):
            for function in IN_ONE:
                self.check_error(BadPlace, None, function, WALL, one, other)
            self.check_error(BadPlace, None, two_layers, WALL, FREE, one, other, 1)
            self.check_error(BadPlace, None, routed, WALL, (((0, 0), (0, 0)), (one, other)))

    def test_no_second_mazes(self):
        for value in plain.NO_MAZES + (((0, 0, 0),), FREE + ((0, 0, 0),), ((0, 0), (0, 0)), ((0, 0, 0, 0),) * 2,
                                       ((0, 0), (0, 0), (0, 0)), ((0,) * 3, (0,) * 3)[:1], OPEN):
            for via in (1, None):
                self.check_error(BadMaze, None, two_layers, FREE, value, (0, 0), (1, 2), via)

    def test_no_prices(self):
        for value in judge.ODD_VALUES + (-1, 21, True, False, "5", 10 ** 30):
            if value.__class__ is not int or value not in range(21):
                self.check_error(BadNumber, None, two_layers, FREE, WALL, (0, 0), (1, 2), value)

    def test_no_pairs(self):
        pair = ((0, 0), (1, 2))
        for value in judge.ODD_VALUES + ((pair,) * 13, (pair + pair,), (pair + pair[:1],), (pair[:1],), [pair], ([(0, 0), (1, 2)],), pair,
                                         (pair, None), {pair: 1}, (pair, ((0, 0), (2, 2)))):
            if value != ():
                self.check_error(BadPlace, None, routed, FREE, value)

    def test_limits(self):
        self.assertEqual(len(shortest(OPEN, (0, 0), (11, 11))), 23)
        self.assertEqual(shortest(((0,),), (0, 0), (0, 0)), ((0, 0),))
        self.assertEqual(len(shortest(((0,) * 12,), (0, 11), (0, 0))), 12)
        self.assertEqual(len(shortest(((0,),) * 12, (0, 0), (11, 0))), 12)


class Shortest(FloorCase):
    """Point 74."""

    def test_known_ones(self):
        self.assertEqual(shortest(FREE, (0, 0), (1, 2)), ((0, 0), (0, 1), (0, 2), (1, 2)))
        self.assertEqual(shortest(FREE, (1, 2), (0, 0)), ((1, 2), (0, 2), (0, 1), (0, 0)))
        self.assertEqual(shortest(FREE, (1, 0), (0, 2)), ((1, 0), (0, 0), (0, 1), (0, 2)))
        self.assertEqual(shortest(FREE, (0, 2), (1, 0)), ((0, 2), (0, 1), (0, 0), (1, 0)))
        self.assertEqual(shortest(DOOR, (2, 0), (2, 2)), ((2, 0), (1, 0), (0, 0), (0, 1), (0, 2), (1, 2), (2, 2)))
        self.assertEqual(shortest(FREE, (1, 1), (1, 1)), ((1, 1),))
        self.assertIsNone(shortest(WALL, (0, 0), (0, 2)))
        self.assertIsNone(shortest(((0, 1), (1, 0)), (0, 0), (1, 1)))

    def test_snake(self):
        self.assertEqual(len(shortest(SNAKE, (0, 0), (11, 0))), 78)

    def test_random(self):
        source = Random(171)
        none = 0
        for _ in range(250):
            maze = plain.random_maze(source, source.randint(1, 4), source.randint(1, 4), source.choice((0.1, 0.3, 0.5)))
            for _ in range(3 if plain.free_places(maze) else 0):
                one, other = source.choice(plain.free_places(maze)), source.choice(plain.free_places(maze))
                answer = shortest(maze, one, other)
                none += answer is None
                self.assertEqual(answer, plain.plain_shortest(maze, one, other), (maze, one, other))
        self.assertGreater(none, 30)

    def test_large_ones(self):
        source = Random(172)
        for _ in range(60):
            maze = plain.random_maze(source, 12, 12, source.choice((0.1, 0.3, 0.4)))
            one, other = source.choice(plain.free_places(maze)), source.choice(plain.free_places(maze))
            self.assertEqual(shortest(maze, one, other), plain.first_shortest(maze, one, other), (maze, one, other))


class FewestBends(FloorCase):
    """Point 75."""

    def test_known_ones(self):
        self.assertEqual(fewest_bends(FREE, (0, 0), (0, 0)), (0, 0))
        self.assertEqual(fewest_bends(FREE, (0, 0), (0, 2)), (0, 2))
        self.assertEqual(fewest_bends(FREE, (0, 0), (1, 2)), (1, 3))
        self.assertEqual(fewest_bends(DOOR, (2, 0), (2, 2)), (2, 6))
        self.assertEqual(fewest_bends(OPEN, (11, 0), (0, 11)), (1, 22))
        self.assertIsNone(fewest_bends(WALL, (0, 0), (0, 2)))

    def test_fewer_bends_by_more_steps(self):
        maze = ((0, 0, 0, 0, 0),
                (0, 1, 1, 1, 0),
                (0, 0, 1, 0, 0),
                (1, 0, 0, 0, 1))
        # The way with the fewest steps is not the one with the fewest bends.
        self.assertEqual(len(shortest(maze, (2, 0), (2, 4))), 7)
        self.assertEqual(fewest_bends(maze, (2, 0), (2, 4)), (2, 8))

    def test_snake(self):
        self.assertEqual(fewest_bends(SNAKE, (0, 0), (11, 0)), (11, 77))

    def test_random(self):
        source = Random(173)
        for _ in range(250):
            maze = plain.random_maze(source, source.randint(1, 4), source.randint(1, 5), source.choice((0.2, 0.3, 0.5)))
            for _ in range(3 if plain.free_places(maze) else 0):
                one, other = source.choice(plain.free_places(maze)), source.choice(plain.free_places(maze))
                self.assertEqual(fewest_bends(maze, one, other), plain.plain_fewest_bends(maze, one, other),
                                 (maze, one, other))


class TwoLayers(FloorCase):
    """Point 76."""

    def check_layers(self, maze, over, one, other, via):
        answer = two_layers(maze, over, one, other, via)
        wanted = plain.plain_layer_cost(maze, over, one, other, via)
        if wanted is None:
            self.assertIsNone(answer, (maze, over, one, other, via))
            return None
        cost, wire = answer
        self.assertIs(wire.__class__, tuple)
        self.assertEqual((wire[0], wire[-1]), ((one, 0), (other, 0)), (maze, over, one, other, via))
        self.assertEqual(cost, wanted, (maze, over, one, other, via))
        self.assertEqual(plain.wire_cost(maze, over, via, wire), cost, (maze, over, one, other, via, wire))
        return cost

    def test_known_ones(self):
        self.assertEqual(two_layers(FREE, FREE, (0, 0), (0, 0), 20), (0, (((0, 0), 0),)))
        self.assertEqual(two_layers(FREE, WALL, (0, 0), (0, 1), 20), (1, (((0, 0), 0), ((0, 1), 0))))
        self.assertEqual(two_layers(FREE, FREE, (0, 0), (1, 0), 5),
                         (11, (((0, 0), 0), ((0, 0), 1), ((1, 0), 1), ((1, 0), 0))))
        self.assertEqual(self.check_layers(FREE, FREE, (0, 0), (1, 2), 7), 17)
        self.assertEqual(self.check_layers(FREE, FREE, (0, 0), (1, 2), 0), 3)

    def test_directions_of_layers(self):
        self.assertIsNone(two_layers(FREE, ((1, 1, 1),) * 2, (0, 0), (1, 0), 0))
        self.assertIsNone(two_layers(((0, 1, 0),) * 2, FREE, (0, 0), (0, 2), 0))
        self.assertIsNone(two_layers(((0, 1, 0),) * 2, FREE, (0, 0), (1, 2), 0))
        self.assertEqual(self.check_layers(((0, 1, 0),) * 2, FREE, (0, 0), (1, 0), 0), 1)

    def test_changes_at_places_that_are_free_in_both(self):
        # Upright, the first layer may be blocked between, but not at the changes.
        maze, over = ((0, 0), (1, 0), (0, 0)), ((0, 1), (0, 1), (0, 1))
        self.assertEqual(self.check_layers(maze, over, (0, 0), (2, 1), 3), 9)
        self.assertIsNone(two_layers(maze, ((1, 1), (0, 1), (0, 1)), (0, 0), (2, 1), 3))
        self.assertIsNone(two_layers(maze, ((0, 1), (0, 1), (1, 1)), (0, 0), (2, 1), 3))

    def test_ends_may_be_blocked_in_the_second_maze(self):
        self.assertEqual(self.check_layers(((0, 0, 0),), ((1, 1, 1),), (0, 0), (0, 2), 1), 2)

    def test_dear_changes(self):
        maze = ((0, 0, 1, 0, 0), (1, 0, 0, 0, 1))
        over = ((0, 0, 1, 0, 0), (0, 0, 1, 0, 0))
        self.assertEqual(self.check_layers(maze, over, (0, 0), (0, 4), 20), 86)

    def test_random(self):
        source = Random(174)
        none = 0
        for _ in range(300):
            rows, columns = source.randint(1, 6), source.randint(1, 6)
            maze = plain.random_maze(source, rows, columns, source.choice((0.1, 0.3)))
            over = plain.random_maze(source, rows, columns, source.choice((0.1, 0.3)))
            if plain.free_places(maze):
                one, other = source.choice(plain.free_places(maze)), source.choice(plain.free_places(maze))
                none += self.check_layers(maze, over, one, other, source.choice((0, 1, 2, 20))) is None
        self.assertTrue(20 < none < 200, none)

    def test_large_ones(self):
        source = Random(175)
        for _ in range(10):
            maze, over = plain.random_maze(source, 12, 12, 0.2), plain.random_maze(source, 12, 12, 0.2)
            one, other = source.choice(plain.free_places(maze)), source.choice(plain.free_places(maze))
            self.check_layers(maze, over, one, other, source.randint(0, 20))

    def test_equal_arguments_have_equal_results(self):
        self.assertEqual(two_layers(OPEN, OPEN, (0, 0), (11, 11), 0),
                         two_layers(tuple(list(OPEN)), OPEN, (0, 0), (11, 11), 0))


class Routed(FloorCase):
    """Point 77."""

    def test_known_ones(self):
        self.assertEqual(routed(FREE, ()), [])
        self.assertEqual(routed(FREE, (((0, 0), (0, 2)), ((1, 0), (1, 2)))),
                         [((0, 0), (0, 1), (0, 2)), ((1, 0), (1, 1), (1, 2))])
        self.assertEqual(routed(FREE, (((0, 1), (1, 1)), ((0, 0), (0, 2)), ((0, 0), (1, 0)))),
                         [((0, 1), (1, 1)), None, ((0, 0), (1, 0))])

    def test_blocked_ends(self):
        self.assertEqual(routed(FREE, (((0, 0), (0, 2)), ((0, 1), (1, 1)), ((1, 1), (0, 1)), ((1, 1), (1, 1)),
                                       ((1, 1), (1, 1)))),
                         [((0, 0), (0, 1), (0, 2)), None, None, ((1, 1),), None])

    def test_what_has_no_wire_blocks_nothing(self):
        self.assertEqual(routed(WALL, (((0, 0), (0, 2)), ((0, 0), (1, 0)), ((0, 2), (1, 2)))),
                         [None, ((0, 0), (1, 0)), ((0, 2), (1, 2))])

    def test_twelve_pairs(self):
        pairs = tuple(((row, 0), (row, 11)) for row in range(12))
        self.assertEqual(routed(OPEN, pairs), [tuple((row, column) for column in range(12)) for row in range(12)])

    def test_new_list(self):
        pairs = (((0, 0), (0, 2)),)
        routed(FREE, pairs).clear()
        self.assertEqual(routed(FREE, pairs), [((0, 0), (0, 1), (0, 2))])

    def test_random(self):
        source = Random(176)
        for _ in range(100):
            maze = plain.random_maze(source, source.randint(1, 12), source.randint(1, 12), source.choice((0.0, 0.1, 0.3)))
            free = plain.free_places(maze)
            if free:
                pairs = tuple((source.choice(free), source.choice(free)) for _ in range(source.randint(0, 12)))
                answer = routed(maze, pairs)
                self.assertIsInstance(answer, list)
                self.assertEqual(answer, plain.plain_routed(maze, pairs), (maze, pairs))


if __name__ == "__main__":
    unittest.main()
