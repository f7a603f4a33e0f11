"""Points 7 to 10: sizes, curves, spots and the best words."""

import unittest
from random import Random

from chipfloor.errors import BadChoice, BadSizes, BadWord, TooMany
from chipfloor.shapes import best, best_word, curve, curve_of, placed, size_of
from chipfloor.slices import all_words
from tests import judge
from tests.helpers import FloorCase

TWO = (((2, 1), (1, 2)), ((2, 1), (1, 2)))
FULL = tuple((k, 7 - k) for k in range(1, 7))
EIGHT = (0, 1, "H", 2, 3, "V", 4, "H", "V", 5, 6, 7, "V", "H", "V")
WORDS_OF_EIGHT = (EIGHT, tuple(range(8)) + ("H",) * 7, (7, 0, "V", 1, "V", 2, "H", 3, 4, 5, "H", "V", "H", 6, "V"))

# Each value that is no tuple of sizes of a block.
WRONG_BLOCKS = (
    (), None, True, 5, "", "ab", [], [(1, 1)], {}, {(1, 1): 1}, (1, 1), (1,), (None,), ("11",), ([1, 1],), ((1,),),
    ((),), ((1, 1, 1),), ((0, 1),), ((1, 0),), ((101, 1),), ((1, 101),), ((-1, 1),), ((True, 1),), ((1, True),),
    ((False, 1),), (("1", 1),), ((1, None),), ((1, [1]),), ((1, 1), (1, 0)), ((1, 1), None), (True,), ({},),
    ((1, 1),) * 7, ((1, 10 ** 30),), BadSizes(0), (BadSizes(0),),
)

# Each value that is no tuple of 1 to 8 items.
NO_BLOCKS = (None, True, False, 0, 1, "", "blocks", [], [((1, 1),)], {}, {0: ((1, 1),)}, (), (((1, 1),),) * 9,
             (((1, 1),),) * 20, (None,) * 9, BadSizes(None))

WRONG_WORDS = (((0, 1, "h"), 2), ((0, 2, "H"), 1), ((0, True, "H"), 1), ((0, "H", 1), 1), ([0, 1, "H"], None),
               ("01H", None), (None, None), ((), None), ((0, 1), None), (0, None), ({}, None), (((0,), 1, "H"), 0))


def random_blocks(source, many, most):
    return tuple(tuple((source.randint(1, 9), source.randint(1, 9)) for _ in range(source.randint(1, most)))
                 for _ in range(many))


class CurveOf(FloorCase):
    """Point 7."""

    def test_beaten(self):
        self.assertEqual(curve_of(((2, 1),)), ((2, 1),))
        self.assertEqual(curve_of(((3, 1), (1, 3), (2, 2))), ((1, 3), (2, 2), (3, 1)))
        self.assertEqual(curve_of(((3, 3), (1, 3), (3, 1))), ((1, 3), (3, 1)))
        self.assertEqual(curve_of(((2, 5), (2, 4), (3, 4))), ((2, 4),))
        self.assertEqual(curve_of(((2, 2), (2, 2), (2, 2))), ((2, 2),))

    def test_edges(self):
        self.assertEqual(curve_of(((1, 1),)), ((1, 1),))
        self.assertEqual(curve_of(((100, 100),)), ((100, 100),))
        self.assertEqual(curve_of(((100, 1), (1, 100))), ((1, 100), (100, 1)))
        self.assertEqual(curve_of(FULL), FULL)

    def test_random(self):
        source = Random(7)
        for _ in range(300):
            sizes = random_blocks(source, 1, 6)[0]
            self.assertEqual(curve_of(sizes), judge.not_beaten(sizes), sizes)

    def test_wrong_sizes(self):
        for value in WRONG_BLOCKS:
            self.check_error(BadSizes, ("index", 0), curve_of, value)

    def test_wrong_value_stays(self):
        value = [(2, 1), (1, 2)]
        self.check_error(BadSizes, ("index", 0), curve_of, value)
        self.assertEqual(value, [(2, 1), (1, 2)])


class Blocks(FloorCase):
    """The errors of points 7 and 8 that the functions over blocks share."""

    def calls(self, blocks, word):
        """Each function with its arguments, the choice a right one of two blocks."""
        return ((curve, blocks, word), (best, blocks, word), (size_of, blocks, word, (0, 0)),
                (placed, blocks, word, (0, 0)))

    def test_no_blocks(self):
        for value in NO_BLOCKS:
            self.check_error(BadSizes, ("index", None), best_word, value)
            for call in self.calls(value, (0, 1, "H")):
                self.check_error(BadSizes, ("index", None), *call)

    def test_wrong_blocks(self):
        for value in WRONG_BLOCKS:
            for blocks, index in (((value, TWO[1]), 0), ((TWO[0], value), 1), ((value, value), 0)):
                self.check_error(BadSizes, ("index", index), best_word, blocks)
                for call in self.calls(blocks, (0, 1, "H")):
                    self.check_error(BadSizes, ("index", index), *call)

    def test_last_of_eight(self):
        blocks = (FULL,) * 7 + (FULL + ((9, 9),),)
        self.check_error(BadSizes, ("index", 7), curve, blocks, EIGHT)
        self.check_error(BadSizes, ("index", 7), best_word, blocks)

    def test_wrong_words(self):
        for word, index in WRONG_WORDS:
            for call in self.calls(TWO, word):
                self.check_error(BadWord, ("index", index), *call)

    def test_more_or_fewer_blocks(self):
        for word in ((0,), (0, 1, "H", 2, "H"), EIGHT):
            for call in self.calls(TWO, word):
                self.check_error(BadWord, ("index", None), *call)

    def test_wrong_item_ahead_of_more_or_fewer(self):
        for word, index in (((1,), 0), ((0, 1, "H", 2, 3), 4), ((0, 1, "H", 2, True), 4)):
            for call in self.calls(TWO, word):
                self.check_error(BadWord, ("index", index), *call)

    def test_two_wrong_arguments(self):
        for call in self.calls((TWO[0], None), (0, "H", 1)):
            self.check_error(BadSizes, ("index", 1), *call)
        for call in self.calls([], None):
            self.check_error(BadSizes, ("index", None), *call)
        for function in (size_of, placed):
            self.check_error(BadSizes, ("index", 0), function, ((), TWO[1]), (0, 1, "H"), None)
            self.check_error(BadWord, ("index", 1), function, TWO, (0, 0, "H"), None)
            self.check_error(BadWord, ("index", None), function, TWO, (0,), None)
            self.check_error(BadWord, ("index", None), function, TWO, (0,), (9,))


class Curves(FloorCase):
    """Point 8."""

    def check_best(self, blocks, word, area):
        answer = best(blocks, word)
        self.assertIsInstance(answer, tuple)
        least, choice = answer
        self.assertEqual(least, area, (blocks, word))
        self.assertIsInstance(choice, tuple)
        self.assertEqual(len(choice), len(blocks))
        width, height = judge.plain_size(blocks, word, choice)
        self.assertEqual(width * height, area, (blocks, word, choice))

    def test_example(self):
        self.assertEqual(curve(TWO, (0, 1, "V")), ((2, 2), (4, 1)))

    def test_letters(self):
        blocks = (((2, 3),), ((5, 7),))
        self.assertEqual(curve(blocks, (0, 1, "H")), ((5, 10),))
        self.assertEqual(curve(blocks, (0, 1, "V")), ((7, 7),))
        self.assertEqual(curve(blocks, (1, 0, "V")), ((7, 7),))

    def test_one_block(self):
        blocks = (((2, 1), (1, 2), (2, 2)),)
        self.assertEqual(curve(blocks, (0,)), ((1, 2), (2, 1)))
        self.check_best(blocks, (0,), 2)

    def test_beaten_sizes_and_equal_sizes(self):
        blocks = (((3, 3), (2, 2), (2, 2)), ((4, 4), (2, 2)))
        self.assertEqual(curve(blocks, (0, 1, "V")), ((4, 2),))
        self.check_best(blocks, (0, 1, "V"), 8)

    def test_long_sides(self):
        blocks = (((100, 100),),) * 8
        row = (0, 1, "V", 2, "V", 3, "V", 4, "V", 5, "V", 6, "V", 7, "V")
        self.assertEqual(curve(blocks, row), ((800, 100),))
        self.assertEqual(best(blocks, row), (80000, (0,) * 8))

    def test_word_that_is_not_normal(self):
        source = Random(8)
        for word in judge.every_word(3):
            blocks = random_blocks(source, 3, 3)
            self.assertEqual(curve(blocks, word), judge.plain_curve(blocks, word), (blocks, word))
            self.check_best(blocks, word, judge.least_area(blocks, word))

    def test_random(self):
        source = Random(9)
        words = judge.every_word(4)
        for _ in range(150):
            blocks, word = random_blocks(source, 4, 4), source.choice(words)
            self.assertEqual(curve(blocks, word), judge.plain_curve(blocks, word), (blocks, word))
            self.check_best(blocks, word, judge.least_area(blocks, word))

    def test_eight_blocks(self):
        source = Random(10)
        for word in WORDS_OF_EIGHT:
            blocks = random_blocks(source, 8, 2)
            self.assertEqual(curve(blocks, word), judge.plain_curve(blocks, word), (blocks, word))
            self.check_best(blocks, word, judge.least_area(blocks, word))

    def test_eight_blocks_of_six_sizes(self):
        blocks = tuple(tuple((k + shift, 7 - k + shift) for k in range(1, 7)) for shift in range(8))
        for word in WORDS_OF_EIGHT:
            sizes = curve(blocks, word)
            self.assertEqual(sizes, judge.not_beaten(sizes))
            self.check_best(blocks, word, min(width * height for width, height in sizes))

    def test_equal_arguments_have_equal_results(self):
        again = tuple(tuple(list(sizes)) for sizes in TWO)
        for word in ((0, 1, "H"), (1, 0, "V")):
            self.assertEqual(best(TWO, word), best(again, tuple(list(word))))


class Spots(FloorCase):
    """Point 9."""

    def test_example(self):
        self.assertEqual(placed(TWO, (0, 1, "H"), (0, 1)), ((0, 0, 2, 1), (0, 1, 1, 2)))
        self.assertEqual(size_of(TWO, (0, 1, "H"), (0, 1)), (2, 3))

    def test_second_part_begins_where_the_first_one_ends(self):
        blocks = (((2, 3),), ((5, 1),), ((1, 4),))
        self.assertEqual(placed(blocks, (2, 0, 1, "H", "V"), (0, 0, 0)), ((1, 0, 2, 3), (1, 3, 5, 1), (0, 0, 1, 4)))
        self.assertEqual(placed(blocks, (0, 1, "H", 2, "V"), (0, 0, 0)), ((0, 0, 2, 3), (0, 3, 5, 1), (5, 0, 1, 4)))
        self.assertEqual(size_of(blocks, (0, 1, "H", 2, "V"), (0, 0, 0)), (6, 4))

    def test_one_block(self):
        self.assertEqual(placed((FULL,), (0,), (5,)), ((0, 0, 6, 1),))
        self.assertEqual(size_of((FULL,), (0,), (0,)), (1, 6))

    def test_all_words_and_choices(self):
        source = Random(11)
        for many in (1, 2, 3):
            for word in judge.every_word(many):
                blocks = random_blocks(source, many, 2)
                for choice in judge.choices(blocks):
                    self.check_floor(blocks, word, choice)

    def test_eight_blocks(self):
        source = Random(12)
        for word in WORDS_OF_EIGHT:
            blocks = random_blocks(source, 8, 6)
            for _ in range(20):
                self.check_floor(blocks, word, tuple(source.randrange(len(sizes)) for sizes in blocks))

    def check_floor(self, blocks, word, choice):
        size = size_of(blocks, word, choice)
        spots = placed(blocks, word, choice)
        self.assertEqual(size, judge.plain_size(blocks, word, choice))
        self.assertEqual(spots, judge.plain_placed(blocks, word, choice))
        self.assertEqual([spot[2:] for spot in spots], [sizes[at] for sizes, at in zip(blocks, choice)])
        self.assertEqual(size, (max(spot[0] + spot[2] for spot in spots), max(spot[1] + spot[3] for spot in spots)))
        for at, spot in enumerate(spots):
            self.assertFalse(any(judge.have_common_point(spot, other) for other in spots[:at]))

    def test_no_choice(self):
        for choice in (None, True, 0, "", "00", [], [0, 0], {}, {0: 0, 1: 0}, (), (0,), (0, 0, 0), (None,), (9, 9, 9),
                       BadChoice(0)):
            for function in (size_of, placed):
                self.check_error(BadChoice, ("index", None), function, TWO, (0, 1, "H"), choice)

    def test_wrong_items(self):
        for item in (2, -1, 10 ** 30, True, False, None, "", "0", [], [0], (), (0,), {}, BadChoice(0)):
            for choice, index in (((item, 0), 0), ((0, item), 1), ((item, item), 0)):
                for function in (size_of, placed):
                    self.check_error(BadChoice, ("index", index), function, TWO, (0, 1, "H"), choice)

    def test_first_and_last_index(self):
        blocks = (((1, 1), (2, 2), (3, 3)), ((4, 4),))
        self.assertEqual(size_of(blocks, (0, 1, "V"), (0, 0)), (5, 4))
        self.assertEqual(size_of(blocks, (0, 1, "V"), (2, 0)), (7, 4))
        self.check_error(BadChoice, ("index", 0), size_of, blocks, (0, 1, "V"), (3, 0))
        self.check_error(BadChoice, ("index", 1), size_of, blocks, (0, 1, "V"), (2, 1))
        self.check_error(BadChoice, ("index", 0), placed, blocks, (0, 1, "V"), (-1, 1))

    def test_index_goes_by_blocks_not_by_the_word(self):
        blocks = (((1, 1),), ((4, 4), (5, 5)))
        self.assertEqual(placed(blocks, (1, 0, "V"), (0, 1)), ((5, 0, 1, 1), (0, 0, 5, 5)))
        self.check_error(BadChoice, ("index", 0), placed, blocks, (1, 0, "V"), (1, 0))


class BestWord(FloorCase):
    """Point 10."""

    def check_best_word(self, blocks):
        answer = best_word(blocks)
        self.assertIsInstance(answer, tuple)
        area, word, choice = answer
        wanted = min(judge.least_area(blocks, each) for each in judge.every_word(len(blocks)))
        self.assertEqual(area, wanted, blocks)
        self.assertIn(word, all_words(len(blocks)))
        width, height = judge.plain_size(blocks, word, choice)
        self.assertIsInstance(choice, tuple)
        self.assertEqual(width * height, area, (blocks, word, choice))

    def test_one_block(self):
        self.assertEqual(best_word((((3, 3), (2, 4)),)), (8, (0,), (1,)))

    def test_few_blocks(self):
        source = Random(13)
        for many, times in ((1, 10), (2, 20), (3, 10)):
            for _ in range(times):
                self.check_best_word(random_blocks(source, many, 3))

    def test_four_blocks(self):
        source = Random(14)
        for _ in range(4):
            self.check_best_word(random_blocks(source, 4, 2))
        self.check_best_word((((100, 100),), ((1, 100),), ((100, 1),), ((1, 1),)))

    def test_four_blocks_of_six_sizes(self):
        area, word, choice = best_word((FULL,) * 4)
        width, height = judge.plain_size((FULL,) * 4, word, choice)
        self.assertEqual((area, width * height), (24, 24))

    def test_too_many(self):
        for many in (5, 6, 7, 8):
            self.check_error(TooMany, ("most", 4), best_word, (FULL,) * many)

    def test_wrong_block_among_too_many(self):
        self.check_error(BadSizes, ("index", 4), best_word, (FULL,) * 4 + ((),))
        self.check_error(BadSizes, ("index", None), best_word, (FULL,) * 9)

    def test_equal_arguments_have_equal_results(self):
        again = tuple(tuple(list(sizes)) for sizes in TWO)
        self.assertEqual(best_word(TWO), best_word(again))


if __name__ == "__main__":
    unittest.main()
