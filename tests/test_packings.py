"""Points 11 to 18: packings, orders, critical rows, patterns and slicing words."""

import unittest
from itertools import permutations
from random import Random

from chipfloor.bushes import bush_of, is_compact
from chipfloor.errors import BadOrders, BadPacking, BadSizes, TooMany
from chipfloor.packings import best_packing, bounds, critical, is_packing, orders_of, packed, pattern, slicing_of
from tests import judge
from tests import judge_spots as plain
from tests.helpers import FloorCase

PINWHEEL = ((0, 0, 2, 1), (2, 0, 1, 2), (1, 2, 2, 1), (0, 1, 1, 2))
EIGHT = tuple((k, 0, 1, 1) for k in range(8))
OF_SPOTS = (bounds, orders_of, is_compact, bush_of)


class Packings(FloorCase):
    """Point 11."""

    def test_packings(self):
        for value in (((0, 0, 1, 1),), ((1000, 1000, 100, 100),), ((5, 7, 1, 100), (6, 7, 100, 1)), PINWHEEL, EIGHT,
                      ((0, 0, 2, 2), (2, 2, 2, 2)), ((0, 0, 2, 2), (0, 2, 2, 2)), ((3, 3, 1, 1), (0, 0, 3, 3)),
                      ((0, 0, 100, 1), (0, 1, 1, 100), (99, 1, 1, 100))):
            self.assertIs(is_packing(value), True, value)

    def test_no_packings(self):
        for value in plain.NO_EIGHT + judge.ODD_VALUES:
            self.assertIs(is_packing(value), False, value)
        for value in plain.NO_SPOTS:
            self.assertIs(is_packing((value,)), False, value)
            self.assertIs(is_packing(((0, 0, 1, 1), value)), False, value)

    def test_overlaps(self):
        for one, other in (((0, 0, 2, 2), (1, 1, 2, 2)), ((0, 0, 3, 3), (1, 1, 1, 1)), ((1, 1, 1, 1), (0, 0, 3, 3)),
                           ((0, 1, 3, 1), (1, 0, 1, 3)), ((0, 0, 1, 1), (0, 0, 1, 1)), ((0, 1, 2, 1), (1, 0, 2, 2))):
            self.assertIs(is_packing((one, other)), False)
            self.assertIs(is_packing((other, one)), False)
            self.assertIs(is_packing(((50, 50, 9, 9), other, one)), False)

    def test_nine(self):
        self.assertIs(is_packing(EIGHT + ((8, 0, 1, 1),)), False)

    def test_random(self):
        source = Random(11)
        kinds = {True: 0, False: 0}
        for _ in range(2000):
            many = source.randint(1, 4)
            value = tuple((source.randrange(5), source.randrange(5), source.randint(1, 3), source.randint(1, 3))
                          for _ in range(many))
            wanted = not any(judge.have_common_point(value[i], value[k]) for k in range(many) for i in range(k))
            self.assertIs(is_packing(value), wanted, value)
            kinds[wanted] += 1
        self.assertGreater(min(kinds.values()), 200)

    def test_no_tuple_of_spots(self):
        for value in plain.NO_EIGHT:
            for function in OF_SPOTS:
                self.check_error(BadPacking, ("index", None), function, value)

    def test_wrong_spots(self):
        for value in plain.NO_SPOTS:
            for function in OF_SPOTS:
                self.check_error(BadPacking, ("index", 0), function, (value,))
                self.check_error(BadPacking, ("index", 1), function, ((0, 0, 1, 1), value, value))

    def test_first_wrong_item(self):
        for function in OF_SPOTS:
            self.check_error(BadPacking, ("index", 1), function, ((0, 0, 2, 2), (1, 1, 2, 2), None))
            self.check_error(BadPacking, ("index", 2), function, ((0, 0, 2, 2), (2, 2, 2, 2), (0, 0, 1, 1), (0, 0, 2, 2)))
            self.check_error(BadPacking, ("index", 7), function, EIGHT[:7] + ((0, 0, 101, 1),))
            self.check_error(BadPacking, ("index", 7), function, EIGHT[:7] + ((6, 0, 1, 1),))


class Bounds(FloorCase):
    """Point 12."""

    def test_from_the_corner(self):
        self.assertEqual(bounds(((3, 5, 2, 1),)), (5, 6))
        self.assertEqual(bounds(PINWHEEL), (3, 3))
        self.assertEqual(bounds(((9, 0, 1, 1), (0, 7, 2, 4))), (10, 11))
        self.assertEqual(bounds(((0, 0, 1, 1),)), (1, 1))
        self.assertEqual(bounds(((1000, 1000, 100, 100),)), (1100, 1100))


class Told(FloorCase):
    """Sizes and orders, which points 13 and 14 share."""

    def test_no_tuple_of_sizes(self):
        for value in plain.NO_EIGHT:
            for function in (packed, critical):
                self.check_error(BadSizes, ("index", None), function, value, (0,), (0,))
            self.check_error(BadSizes, ("index", None), best_packing, value)

    def test_wrong_sizes(self):
        for value in plain.NO_SIZES:
            for function in (packed, critical):
                self.check_error(BadSizes, ("index", 0), function, (value, (1, 1)), (0, 1), (0, 1))
                self.check_error(BadSizes, ("index", 1), function, ((1, 1), value), (0, 1), (0, 1))
                self.check_error(BadSizes, ("index", 0), function, (value, value), None, None)
            self.check_error(BadSizes, ("index", 0), best_packing, (value,))
            self.check_error(BadSizes, ("index", 4), best_packing, ((1, 1),) * 4 + (value, None))

    def test_no_orders(self):
        sizes = ((1, 1), (2, 2))
        for value in plain.NO_ORDERS_OF_TWO:
            for function in (packed, critical):
                self.check_error(BadOrders, None, function, sizes, value, (0, 1))
                self.check_error(BadOrders, None, function, sizes, (1, 0), value)
                self.check_error(BadOrders, None, function, sizes, value, value)

    def test_orders_of_more_or_fewer(self):
        for function in (packed, critical):
            self.check_error(BadOrders, None, function, ((1, 1),), (0, 1), (0, 1))
            self.check_error(BadOrders, None, function, ((1, 1),) * 3, (0, 1, 2), (0, 1))
            self.check_error(BadOrders, None, function, ((1, 1),) * 3, (0, 1), (0, 1, 2))


class Packed(FloorCase):
    """Point 13."""

    def check_packed(self, sizes, first, second):
        spots = packed(sizes, first, second)
        self.assertEqual(spots, plain.plain_packed(sizes, first, second), (sizes, first, second))
        self.assertIs(is_packing(spots), True, (sizes, first, second))

    def test_example(self):
        self.assertEqual(packed(((2, 1), (1, 3)), (0, 1), (0, 1)), ((0, 0, 2, 1), (2, 0, 1, 3)))

    def test_two_blocks(self):
        sizes = ((2, 1), (1, 3))
        self.assertEqual(packed(sizes, (1, 0), (1, 0)), ((1, 0, 2, 1), (0, 0, 1, 3)))
        self.assertEqual(packed(sizes, (1, 0), (0, 1)), ((0, 0, 2, 1), (0, 1, 1, 3)))
        self.assertEqual(packed(sizes, (0, 1), (1, 0)), ((0, 3, 2, 1), (0, 0, 1, 3)))

    def test_one_block(self):
        self.assertEqual(packed(((100, 1),), (0,), (0,)), ((0, 0, 100, 1),))

    def test_rows_of_eight(self):
        up = tuple(range(8))
        sizes = ((100, 100),) * 8
        self.assertEqual(packed(sizes, up, up), tuple((100 * k, 0, 100, 100) for k in up))
        self.assertEqual(packed(sizes, up[::-1], up), tuple((0, 100 * k, 100, 100) for k in up))

    def test_all_orders_of_few_blocks(self):
        source = Random(13)
        for many in (1, 2, 3, 4):
            for first in permutations(range(many)):
                for second in permutations(range(many)):
                    self.check_packed(plain.random_sizes(source, many, 5), first, second)

    def test_random_orders(self):
        source = Random(14)
        for _ in range(300):
            many = source.randint(5, 8)
            self.check_packed(plain.random_sizes(source, many, 100), plain.random_order(source, many),
                              plain.random_order(source, many))


class Critical(FloorCase):
    """Point 14."""

    def check_critical(self, sizes, first, second):
        answer = critical(sizes, first, second)
        self.assertIsInstance(answer, tuple)
        self.assertEqual(len(answer), 2)
        spots = plain.plain_packed(sizes, first, second)
        for axis, row, pairs in zip((0, 1), answer, plain.told(first, second)):
            self.assertIsInstance(row, tuple)
            self.assertTrue(row)
            self.assertEqual({item.__class__ for item in row}, {int})
            self.assertEqual(spots[row[0]][axis], 0)
            self.assertEqual(spots[row[-1]][axis] + spots[row[-1]][axis + 2], plain.plain_bounds(spots)[axis])
            for one, other in zip(row, row[1:]):
                self.assertIn((one, other), pairs, (sizes, first, second, answer))
                self.assertEqual(spots[one][axis] + spots[one][axis + 2], spots[other][axis])

    def test_one_block(self):
        self.assertEqual(critical(((3, 4),), (0,), (0,)), ((0,), (0,)))

    def test_only_answers(self):
        self.assertEqual(critical(((2, 1), (1, 3)), (0, 1), (0, 1)), ((0, 1), (1,)))
        self.assertEqual(critical(((2, 1), (1, 3)), (1, 0), (0, 1)), ((0,), (0, 1)))
        up = tuple(range(8))
        sizes = tuple((k + 1, 8 - k) for k in up)
        self.assertEqual(critical(sizes, up, up), (up, (0,)))
        self.assertEqual(critical(sizes, up[::-1], up), ((7,), up))

    def test_all_orders_of_few_blocks(self):
        source = Random(15)
        for many in (1, 2, 3, 4):
            for first in permutations(range(many)):
                for second in permutations(range(many)):
                    self.check_critical(plain.random_sizes(source, many, 3), first, second)

    def test_random_orders(self):
        source = Random(16)
        for most in (1, 2, 100):
            for _ in range(100):
                many = source.randint(5, 8)
                self.check_critical(plain.random_sizes(source, many, most), plain.random_order(source, many),
                                    plain.random_order(source, many))


class OrdersOf(FloorCase):
    """Point 15."""

    def check_orders(self, spots):
        answer = orders_of(spots)
        self.assertIsInstance(answer, tuple)
        first, second = answer
        for order in answer:
            self.assertTrue(plain.is_plain_order(order, len(spots)), (spots, answer))
        found = plain.plain_packed([spot[2:] for spot in spots], first, second)
        self.assertTrue(plain.are_no_further(found, spots), (spots, answer))

    def test_one_block(self):
        self.assertEqual(orders_of(((7, 9, 1, 2),)), ((0,), (0,)))

    def test_only_answers(self):
        self.assertEqual(orders_of(((0, 0, 1, 5), (1, 0, 1, 5))), ((0, 1), (0, 1)))
        self.assertEqual(orders_of(((0, 5, 1, 5), (0, 0, 1, 5))), ((0, 1), (1, 0)))

    def test_packings(self):
        for spots in (PINWHEEL, EIGHT, tuple((k, k, 1, 1) for k in range(8)), tuple((k, 8 - k, 1, 1) for k in range(8)),
                      tuple((1000 - spot[0] - spot[2], spot[1]) + spot[2:] for spot in PINWHEEL)):
            self.check_orders(spots)

    def test_all_small_packings(self):
        for spots in plain.all_packings(3, 5):
            self.check_orders(spots)

    def test_random_packings(self):
        source = Random(17)
        for _ in range(1500):
            self.check_orders(plain.random_packing(source, 8, source.randint(2, 8), source.randint(1, 5)))

    def test_packed_ones(self):
        source = Random(18)
        for _ in range(100):
            sizes = plain.random_sizes(source, 8, 9)
            self.check_orders(packed(sizes, plain.random_order(source, 8), plain.random_order(source, 8)))


class BestPacking(FloorCase):
    """Point 16."""

    def check_best(self, sizes):
        answer = best_packing(sizes)
        self.assertIsInstance(answer, tuple)
        area, first, second = answer
        self.assertEqual(area, plain.least_by_orders(sizes), sizes)
        for order in (first, second):
            self.assertTrue(plain.is_plain_order(order, len(sizes)), (sizes, answer))
        self.assertEqual(plain.plain_area(plain.plain_packed(sizes, first, second)), area, (sizes, answer))

    def test_example(self):
        self.assertEqual(best_packing(((3, 2), (2, 3), (3, 2), (2, 3)))[0], 25)

    def test_one_block(self):
        self.assertEqual(best_packing(((100, 99),)), (9900, (0,), (0,)))

    def test_random(self):
        source = Random(19)
        for many, times in ((2, 20), (3, 20), (4, 6)):
            for _ in range(times):
                self.check_best(plain.random_sizes(source, many, 9))

    def test_no_packing_has_less(self):
        for spots in plain.all_packings(4, 3)[::17]:
            self.assertLessEqual(best_packing(tuple(spot[2:] for spot in spots))[0], plain.plain_area(spots))

    def test_too_many(self):
        for many in (5, 8):
            self.check_error(TooMany, ("most", 4), best_packing, ((1, 1),) * many)

    def test_equal_arguments_have_equal_results(self):
        sizes = ((3, 2), (2, 3), (3, 2), (2, 3))
        self.assertEqual(best_packing(sizes), best_packing(tuple([tuple(list(size)) for size in sizes])))


class Pair(FloorCase):
    """The errors of points 17 and 18."""

    def test_no_orders(self):
        for value in plain.NO_ORDERS_OF_TWO + (tuple(range(9)), tuple(range(1, 9))):
            for function in (pattern, slicing_of):
                self.check_error(BadOrders, None, function, value, (0, 1))
                self.check_error(BadOrders, None, function, (0, 1), value)
                if value not in ((0,), (0, 1, 2)):
                    self.check_error(BadOrders, None, function, value, value)

    def test_nine(self):
        nine = tuple(range(9))
        for function in (pattern, slicing_of):
            self.check_error(BadOrders, None, function, nine, nine)
            self.check_error(BadOrders, None, function, nine[:8], nine)
            self.check_error(BadOrders, None, function, nine, nine[:8])
            self.check_error(BadOrders, None, function, (), ())


class Pattern(FloorCase):
    """Point 17."""

    def test_example(self):
        self.assertEqual(pattern((0, 1, 2, 3), (1, 3, 0, 2)), (0, 1, 2, 3))

    def test_both_kinds(self):
        self.assertEqual(pattern((0, 1, 2, 3), (2, 0, 3, 1)), (0, 1, 2, 3))
        self.assertEqual(pattern((3, 1, 0, 2), (0, 3, 2, 1)), (0, 1, 2, 3))
        self.assertEqual(pattern((4, 0, 1, 2, 3), (4, 2, 0, 3, 1)), (1, 2, 3, 4))
        self.assertEqual(pattern((4, 0, 1, 2, 3), (2, 0, 3, 4, 1)), (0, 1, 2, 4))

    def test_few_blocks(self):
        for many in (1, 2, 3):
            for first in permutations(range(many)):
                for second in permutations(range(many)):
                    self.assertIsNone(pattern(first, second))

    def test_four_and_five_blocks(self):
        source = Random(20)
        for many in (4, 5):
            for second in permutations(range(many)):
                first = plain.random_order(source, many)
                self.assertEqual(pattern(first, second), plain.plain_pattern(first, second), (first, second))

    def test_eight_blocks(self):
        source = Random(21)
        for _ in range(50):
            first, second = plain.random_order(source, 8), plain.random_order(source, 8)
            self.assertEqual(pattern(first, second), plain.plain_pattern(first, second), (first, second))

    def test_pattern_at_the_end(self):
        self.assertEqual(pattern(tuple(range(8)), (0, 1, 2, 3, 6, 4, 7, 5)), (4, 5, 6, 7))


class SlicingOf(FloorCase):
    """Point 18."""

    def check_word(self, first, second, source):
        word = slicing_of(first, second)
        self.assertEqual(word is None, plain.plain_pattern(first, second) is not None, (first, second))
        if word is None:
            return False
        self.assertIsInstance(word, tuple)
        self.assertEqual([item for item in word if item.__class__ is not int and item not in ("H", "V")], [])
        self.assertEqual(sorted(item for item in word if item.__class__ is int), list(range(len(first))))
        tree = judge.tree_of(word)
        for _ in range(4):
            sizes = plain.random_sizes(source, len(first), 9)
            size, spots = judge.stand(tree, sizes)
            wanted = plain.plain_packed(sizes, first, second)
            self.assertEqual(size, plain.plain_bounds(wanted), (first, second, word))
            cut_apart = [spots[block] for block in range(len(first))]
            self.assertTrue(plain.are_no_further(wanted, cut_apart), (first, second, word))
        return True

    def test_few_blocks(self):
        self.assertEqual(slicing_of((0,), (0,)), (0,))
        self.assertEqual(slicing_of((0, 1), (0, 1)), (0, 1, "V"))
        self.assertEqual(slicing_of((0, 1), (1, 0)), (1, 0, "H"))
        self.assertEqual(slicing_of((1, 0), (0, 1)), (0, 1, "H"))

    def test_all_orders(self):
        source = Random(22)
        for many in (1, 2, 3, 4, 5):
            for second in permutations(range(many)):
                self.check_word(tuple(range(many)), second, source)
                self.check_word(plain.random_order(source, many), second, source)

    def test_patterns(self):
        self.assertIsNone(slicing_of((0, 1, 2, 3), (1, 3, 0, 2)))
        self.assertIsNone(slicing_of((0, 1, 2, 3), (2, 0, 3, 1)))
        self.assertIsNone(slicing_of(tuple(range(8)), (0, 1, 2, 3, 6, 4, 7, 5)))

    def test_orders_of_words(self):
        source = Random(23)
        for _ in range(40):
            # The orders of a floor that is cut apart have no pattern.
            first = second = (0,)
            while len(first) < 8:
                block, fresh = source.randrange(len(first)), len(first)
                at = first.index(block) + source.randint(0, 1)
                first = first[:at] + (fresh,) + first[at:]
                at = second.index(block) + source.randint(0, 1)
                second = second[:at] + (fresh,) + second[at:]
            self.assertTrue(self.check_word(first, second, source), (first, second))

    def test_random_orders(self):
        source = Random(24)
        for _ in range(60):
            self.check_word(plain.random_order(source, 8), plain.random_order(source, 8), source)


if __name__ == "__main__":
    unittest.main()
