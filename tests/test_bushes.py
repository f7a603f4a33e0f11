"""Points 19 to 21: bushes, compact packings and the bushes of these."""

import unittest
from random import Random

from chipfloor.bushes import best_bush, bush_of, is_compact, packed_bush
from chipfloor.errors import BadBush, BadSizes, TooMany
from chipfloor.packings import best_packing, is_packing
from tests import judge
from tests import judge_spots as plain
from tests.helpers import FloorCase

TWO = ((2, 1), (1, 3))
LEAF = (0, None, None)
PINWHEEL = ((0, 0, 2, 1), (2, 0, 1, 2), (1, 2, 2, 1), (0, 1, 1, 2))


def chain(many, at):
    """A bush of one long branch: each block holds the next one beside it (1) or above it (2)."""
    bush = None
    for block in reversed(range(many)):
        bush = (block, bush, None) if at == 1 else (block, None, bush)
    return bush


def endless(at):
    """A nest of tuples that is far deeper than Python's own calls may go."""
    bush = None
    for _ in range(100000):
        bush = (0, bush, None) if at == 1 else (0, None, bush)
    return bush


def random_bush(source, blocks):
    if not blocks:
        return None
    at = source.randint(1, len(blocks))
    return blocks[0], random_bush(source, blocks[1:at]), random_bush(source, blocks[at:])


class Bushes(FloorCase):
    """Point 19."""

    def test_no_bushes(self):
        wrong = judge.ODD_VALUES + (
            (0,), (0, None), (0, None, None, None), (0, (1, None, None)), (0, (1, None, None), None, None),
            (0, (1, None, None, None), None), [0, (1, None, None), None], [0, None, None], (0, 1, None), (0, None, 1),
            (0, (), None), (0, [], None), (0, (1,), None), (0, (1, None), None), (0, [1, None, None], None),
            (0, False, (1, None, None)), (0, (1, None, None), 0), (0, (1, None, None), ""), (0, (1, None, ()), None),
            ("0", (1, None, None), None), (None, (1, None, None), None), ((0,), (1, None, None), None),
            (False, (1, None, None), None), (0, (True, None, None), None), (0, None, (True, None, None)),
            (2, (1, None, None), None), (0, (2, None, None), None), (-1, (0, None, None), None),
            (0, None, (-1, None, None)), (0, (10 ** 30, None, None), None), (0, ([], None, None), None),
            (0, (0, None, None), None), (0, None, (0, None, None)), (1, (1, None, None), None), LEAF, (1, None, None),
            (0, (1, None, None), (1, None, None)), (0, (1, None, None), (0, None, None)),
            (0, (1, (2, None, None), None), None), (0, (1, None, None), (2, None, None)), BadBush("x"),
            (BadBush("x"), (1, None, None), None))
        for value in wrong:
            self.check_error(BadBush, None, packed_bush, TWO, value)

    def test_no_block(self):
        self.check_error(BadBush, None, packed_bush, ((1, 1),), None)
        self.check_error(BadBush, None, packed_bush, ((1, 1),), (False, None, None))
        self.check_error(BadBush, None, packed_bush, ((1, 1),), (1, None, None))

    def test_deep_values(self):
        for at in (1, 2):
            for bush in (endless(at), (1, endless(at), endless(at))):
                # Python could not show such a value if check_error told of it.
                with self.assertRaises(BadBush):
                    packed_bush(TWO, bush)

    def test_wrong_sizes(self):
        for value in plain.NO_EIGHT:
            self.check_error(BadSizes, ("index", None), packed_bush, value, LEAF)
            self.check_error(BadSizes, ("index", None), best_bush, value)
        for value in plain.NO_SIZES:
            self.check_error(BadSizes, ("index", 0), packed_bush, (value,), LEAF)
            self.check_error(BadSizes, ("index", 1), packed_bush, ((1, 1), value), None)
            self.check_error(BadSizes, ("index", 2), best_bush, ((1, 1), (1, 1), value, value))
            self.check_error(BadSizes, ("index", 5), best_bush, ((1, 1),) * 5 + (value,))


class PackedBush(FloorCase):
    """Point 20."""

    def check_spots(self, sizes, bush):
        spots = packed_bush(sizes, bush)
        self.assertEqual(spots, plain.plain_bush_spots(sizes, bush), (sizes, bush))
        self.assertIs(is_packing(spots), True, (sizes, bush))

    def test_few_blocks(self):
        self.assertEqual(packed_bush(((7, 9),), LEAF), ((0, 0, 7, 9),))
        self.assertEqual(packed_bush(TWO, (0, (1, None, None), None)), ((0, 0, 2, 1), (2, 0, 1, 3)))
        self.assertEqual(packed_bush(TWO, (0, None, (1, None, None))), ((0, 0, 2, 1), (0, 1, 1, 3)))
        self.assertEqual(packed_bush(TWO, (1, (0, None, None), None)), ((1, 0, 2, 1), (0, 0, 1, 3)))

    def test_beside_is_walked_ahead_of_above(self):
        sizes = ((1, 1), (1, 5), (3, 1))
        self.assertEqual(packed_bush(sizes, (0, (1, None, None), (2, None, None))),
                         ((0, 0, 1, 1), (1, 0, 1, 5), (0, 5, 3, 1)))

    def test_under_another_one(self):
        # The block beside the second one falls to the floor: only those before it hold it up.
        sizes = ((1, 4), (1, 1), (2, 1))
        self.assertEqual(packed_bush(sizes, (0, (1, (2, None, None), None), None)),
                         ((0, 0, 1, 4), (1, 0, 1, 1), (2, 0, 2, 1)))

    def test_upon_all_that_share_some_width(self):
        # It does not go into the hole below a block that is put there before it.
        sizes = ((1, 1), (5, 1), (1, 1), (2, 1))
        self.assertEqual(packed_bush(sizes, (0, None, (1, None, (2, (3, None, None), None)))),
                         ((0, 0, 1, 1), (0, 1, 5, 1), (0, 2, 1, 1), (1, 2, 2, 1)))

    def test_rows_of_eight(self):
        sizes = ((100, 100),) * 8
        self.assertEqual(packed_bush(sizes, chain(8, 1)), tuple((100 * k, 0, 100, 100) for k in range(8)))
        self.assertEqual(packed_bush(sizes, chain(8, 2)), tuple((0, 100 * k, 100, 100) for k in range(8)))

    def test_all_bushes_of_few_blocks(self):
        source = Random(31)
        for many in (1, 2, 3, 4):
            for bush in plain.all_bushes(tuple(range(many))):
                self.check_spots(plain.random_sizes(source, many, 4), bush)

    def test_random_bushes(self):
        source = Random(32)
        for _ in range(300):
            many = source.randint(5, 8)
            bush = random_bush(source, plain.random_order(source, many))
            self.check_spots(plain.random_sizes(source, many, source.choice((2, 5, 20))), bush)


class Compact(FloorCase):
    """Point 21, is_compact."""

    def test_compact(self):
        for spots in (((0, 0, 9, 4),), ((0, 0, 2, 1), (2, 0, 1, 3)), PINWHEEL, ((0, 0, 1, 3), (1, 0, 1, 1), (0, 3, 5, 1)),
                      ((0, 0, 2, 2), (2, 0, 1, 1), (0, 2, 1, 1)), tuple((k, 0, 1, 1) for k in range(8))):
            self.assertIs(is_compact(spots), True, spots)

    def test_not_compact(self):
        for spots in (((1, 0, 1, 1),), ((0, 1, 1, 1),), ((0, 0, 1, 1), (2, 0, 1, 1)), ((0, 0, 1, 1), (0, 2, 1, 1)),
                      ((0, 0, 2, 2), (2, 2, 2, 2)), ((0, 0, 2, 1), (2, 1, 1, 1)), ((0, 0, 1, 2), (1, 2, 1, 1)),
                      ((0, 0, 1, 1), (0, 1, 3, 1), (2, 0, 1, 1)), ((0, 0, 1, 9), (2, 0, 1, 9), (0, 9, 3, 1)),
                      ((1000, 1000, 1, 1),)):
            self.assertIs(is_compact(spots), False, spots)
            self.assertIsNone(bush_of(spots), spots)

    def test_corners_hold_nothing(self):
        self.assertIs(is_compact(((0, 0, 1, 1), (1, 0, 2, 1), (1, 1, 1, 1))), False)
        self.assertIs(is_compact(((0, 0, 1, 1), (0, 1, 1, 2), (1, 1, 1, 1))), False)

    def test_a_block_does_not_move_through_another_one(self):
        # There would be room for the last one below the second one.
        self.assertIs(is_compact(((0, 0, 1, 1), (0, 1, 2, 1), (0, 2, 1, 1), (1, 2, 1, 1))), True)

    def test_all_small_packings(self):
        found = {True: 0, False: 0}
        for spots in plain.all_packings(3, 5):
            wanted = plain.is_plain_compact(spots)
            self.assertIs(is_compact(spots), wanted, spots)
            found[wanted] += 1
        self.assertGreater(min(found.values()), 100)


class BushOf(FloorCase):
    """Point 21, bush_of."""

    def check_bush(self, spots):
        bush = bush_of(spots)
        if not plain.is_plain_compact(spots):
            self.assertIsNone(bush, spots)
            return
        self.assertTrue(plain.is_plain_bush(bush, len(spots)), (spots, bush))
        self.assertEqual(plain.plain_bush_spots([spot[2:] for spot in spots], bush), spots, bush)

    def test_one_block(self):
        self.assertEqual(bush_of(((0, 0, 5, 5),)), LEAF)
        self.assertIsNone(bush_of(((0, 1, 5, 5),)))

    def test_known_ones(self):
        self.assertEqual(bush_of(((0, 0, 2, 1), (2, 0, 1, 3))), (0, (1, None, None), None))
        self.assertEqual(bush_of(((0, 1, 2, 1), (0, 0, 1, 1))), (1, None, (0, None, None)))
        self.check_bush(PINWHEEL)

    def test_all_small_packings(self):
        for spots in plain.all_packings(3, 5):
            self.check_bush(spots)

    def test_slid_packings(self):
        source = Random(33)
        for _ in range(400):
            spots = plain.random_packing(source, 8, source.randint(3, 8), source.randint(1, 5))
            self.check_bush(plain.slid(source, spots))

    def test_spots_of_bushes(self):
        source = Random(34)
        for _ in range(200):
            sizes = plain.random_sizes(source, 6, 4)
            self.check_bush(plain.plain_bush_spots(sizes, random_bush(source, plain.random_order(source, 6))))

    def test_equal_arguments_have_equal_results(self):
        self.assertEqual(bush_of(PINWHEEL), bush_of(tuple([tuple(list(spot)) for spot in PINWHEEL])))


class BestBush(FloorCase):
    """Point 21, best_bush."""

    def check_best(self, sizes):
        answer = best_bush(sizes)
        self.assertIsInstance(answer, tuple)
        area, bush = answer
        self.assertEqual(area, plain.least_by_orders(sizes), sizes)
        self.assertEqual(area, best_packing(sizes)[0], sizes)
        self.assertTrue(plain.is_plain_bush(bush, len(sizes)), (sizes, bush))
        self.assertEqual(plain.plain_area(plain.plain_bush_spots(sizes, bush)), area, (sizes, bush))

    def test_one_block(self):
        self.assertEqual(best_bush(((100, 3),)), (300, LEAF))

    def test_pinwheel(self):
        self.assertEqual(best_bush(((3, 2), (2, 3), (3, 2), (2, 3)))[0], 25)

    def test_random(self):
        source = Random(35)
        for many, times in ((2, 20), (3, 20), (4, 8)):
            for _ in range(times):
                self.check_best(plain.random_sizes(source, many, 9))

    def test_equal_sizes(self):
        self.check_best(((1, 1),) * 4)
        self.check_best(((100, 100), (100, 100), (1, 1)))

    def test_too_many(self):
        for many in (5, 8):
            self.check_error(TooMany, ("most", 4), best_bush, ((1, 1),) * many)


if __name__ == "__main__":
    unittest.main()
