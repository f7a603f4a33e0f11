"""Points 2 to 6: slicing words, normal ones, moves and roads."""

import unittest

from chipfloor.errors import BadMove, BadNumber, BadWord, TooMany
from chipfloor.slices import all_words, is_normal, moved, moves, normal, road
from tests import judge
from tests.helpers import FloorCase

EIGHT = (0, 1, "H", 2, 3, "V", 4, "H", "V", 5, 6, 7, "V", "H", "V")
ROW_OF_EIGHT = (0, 1, "H", 2, "H", 3, "H", 4, "H", 5, "H", 6, "H", 7, "H")
UPWARD_EIGHT = (7, 6, 5, 4, 3, 2, 1, 0, "V", "H", "V", "H", "V", "H", "V")

# Each wrong word with the index that its error carries.
WRONG_WORDS = (
    ((), None),
    ((0, 1), None),
    ((0, 1, "H", "V"), None),
    (tuple(range(16)), None),
    (tuple(range(17)), None),
    (ROW_OF_EIGHT + (8, "H"), None),
    ([0, 1, "H"], None),
    ([0], None),
    ("01H", None),
    ("0", None),
    (None, None),
    (True, None),
    (0, None),
    ({0: 0}, None),
    ({}, None),
    (BadWord(2), None),
    ((1,), 0),
    ((-1,), 0),
    ((True,), 0),
    ((False,), 0),
    (("H",), 0),
    (("0",), 0),
    ((None,), 0),
    (([],), 0),
    (({},), 0),
    (((0,),), 0),
    ((BadWord(2),), 0),
    ((0, 1, 2), 2),
    ((0, 2, "H"), 1),
    ((0, 1, "h"), 2),
    ((0, 1, "HV"), 2),
    ((0, 1, ""), 2),
    ((0, 1, 0), 2),
    ((0, 0, "H"), 1),
    ((0, "H", 1), 1),
    ((0, True, "H"), 1),
    ((False, 1, "H"), 0),
    ((1, False, "V"), 1),
    ((0, 1, ["H"]), 2),
    (("H", 0, 1), 0),
    ((0, 1, "H", "V", 2), 3),
    ((0, 1, "H", 2, 1), 4),
    ((0, 1, 3, "H", "V"), 2),
    ((0, 1, 2, "H", 7), 4),
    ((0, 1, 2, 3, "H"), 3),
    ((0, 1, 2, "H", 0), 4),
    ((9, 9, 9), 0),
    (ROW_OF_EIGHT[:-1] + (7,), 14),
    (ROW_OF_EIGHT[:-1] + (8,), 14),
    ((8,) + ROW_OF_EIGHT[1:], 0),
)

NOT_NORMAL = (
    (0, 1, 2, "H", "H"),
    (2, 0, 1, "V", "V"),
    (0, 1, 2, 3, "V", "H", "H"),
    (7, 6, 5, 4, 3, 2, 1, 0, "V", "H", "V", "H", "V", "V", "H"),
)


class Words(FloorCase):
    """Point 2, and what of it each function asks of its words."""

    def test_wrong_words(self):
        for function in (is_normal, normal, moves):
            for word, index in WRONG_WORDS:
                self.check_error(BadWord, ("index", index), function, word)

    def test_wrong_words_with_another_argument(self):
        for word, index in WRONG_WORDS:
            self.check_error(BadWord, ("index", index), moved, word, ("swap", 0))
            self.check_error(BadWord, ("index", index), moved, word, None)
            self.check_error(BadWord, ("index", index), road, word, (0,))
            self.check_error(BadWord, ("index", index), road, (0,), word)

    def test_odd_values_are_no_words(self):
        for value in judge.ODD_VALUES:
            if value is True or value != 1:
                self.check_error(BadWord, ("index", 1), normal, (0, value, "H"))
            if not isinstance(value, tuple):
                self.check_error(BadWord, ("index", None), normal, value)

    def test_every_word_is_one(self):
        for many in (1, 2, 3):
            for word in judge.every_word(many):
                self.assertIs(is_normal(word), judge.is_plain_normal(word), word)

    def test_every_other_tuple_is_none(self):
        items = (0, 1, 2, "H", "V")
        words = set(judge.every_word(3))
        for word in ((a, b, c, d, e) for a in items for b in items for c in items for d in items for e in items):
            if word not in words:
                with self.assertRaises(BadWord) as caught:
                    is_normal(word)
                at = caught.exception.index
                # Ahead of the index all can stand: some word begins so, but none with the item, too.
                self.assertTrue(any(good[:at] == word[:at] for good in words), word)
                self.assertFalse(any(good[:at + 1] == word[:at + 1] for good in words), word)

    def test_wrong_values_stay_as_they_are(self):
        value = [0, 1, "H"]
        self.check_error(BadWord, ("index", None), normal, value)
        self.assertEqual(value, [0, 1, "H"])


class Normal(FloorCase):
    """Point 3."""

    def test_is_normal(self):
        for word in ((0,), (0, 1, "H"), (1, 0, "V"), (0, 1, "H", 2, "H"), (0, 1, 2, "H", "V"), EIGHT, ROW_OF_EIGHT,
                     UPWARD_EIGHT):
            self.assertIs(is_normal(word), True, word)

    def test_is_not_normal(self):
        for word in NOT_NORMAL:
            self.assertIs(is_normal(word), False, word)

    def test_example(self):
        self.assertEqual(normal((0, 1, 2, "H", "H")), (0, 1, "H", 2, "H"))

    def test_rows(self):
        self.assertEqual(normal((0,)), (0,))
        self.assertEqual(normal((3, 2, 1, 0, "V", "V", "V")), (3, 2, "V", 1, "V", 0, "V"))
        self.assertEqual(normal((3, 2, "V", 1, 0, "V", "V")), (3, 2, "V", 1, "V", 0, "V"))
        self.assertEqual(normal((0, 1, 2, 3, "H", "V", "V")), (0, 1, "V", 2, 3, "H", "V"))
        self.assertEqual(normal((0, 1, 2, 3, "H", "H", "V")), (0, 1, 2, "H", 3, "H", "V"))

    def test_eight_in_a_row(self):
        self.assertEqual(normal(tuple(range(8)) + ("H",) * 7), ROW_OF_EIGHT)
        self.assertEqual(normal((0, 1, "H", 2, 3, "H", "H", 4, 5, "H", 6, 7, "H", "H", "H")), ROW_OF_EIGHT)

    def test_normal_words_stay(self):
        for word in [*all_words(4), EIGHT, UPWARD_EIGHT]:
            self.assertEqual(normal(word), word)

    def test_same_floor(self):
        for many in (1, 2, 3, 4):
            floors = {}
            for word in judge.every_word(many):
                answer = normal(word)
                self.assertTrue(judge.is_plain_normal(answer), word)
                self.assertEqual(judge.flat(judge.tree_of(answer)), judge.flat(judge.tree_of(word)), word)
                floors.setdefault(repr(judge.flat(judge.tree_of(word))), set()).add(answer)
            self.assertTrue(all(len(answers) == 1 for answers in floors.values()))

    def test_parts_are_followed_by_the_letter(self):
        for word in judge.every_word(4):
            floor = judge.flat(judge.tree_of(word))
            self.assertEqual(normal(word), self.told(floor), word)

    def told(self, floor):
        """A flat floor as the point tells its word: each part but the first is followed by the letter."""
        if isinstance(floor, int):
            return (floor,)
        word = self.told(floor[1])
        for part in floor[2:]:
            word += self.told(part) + (floor[0],)
        return word


class AllWords(FloorCase):
    """Point 4."""

    def test_few(self):
        self.assertEqual(all_words(1), [(0,)])
        self.assertEqual(all_words(2), [(0, 1, "H"), (0, 1, "V"), (1, 0, "H"), (1, 0, "V")])

    def test_all_in_order(self):
        for many in (1, 2, 3, 4):
            wanted = [word for word in judge.every_word(many) if judge.is_plain_normal(word)]
            self.assertEqual(all_words(many), sorted(wanted, key=judge.in_order))
        self.assertEqual(len(all_words(4)), 528)

    def test_order_of_three(self):
        self.assertEqual(all_words(3)[:6], [(0, 1, 2, "H", "V"), (0, 1, 2, "V", "H"), (0, 1, "H", 2, "H"),
                                            (0, 1, "H", 2, "V"), (0, 1, "V", 2, "H"), (0, 1, "V", 2, "V")])

    def test_too_many(self):
        for many in (5, 6, 7, 8):
            self.check_error(TooMany, ("most", 600), all_words, many)

    def test_wrong_numbers(self):
        for many in (0, -1, 9, 10 ** 30, True, False, None, "", "1", [], [1], (), (1,), {}, BadNumber()):
            self.check_error(BadNumber, None, all_words, many)

    def test_new_list(self):
        first = all_words(2)
        first.clear()
        self.assertEqual(len(all_words(2)), 4)


class Moves(FloorCase):
    """Point 5."""

    def test_example(self):
        self.assertEqual(moves((0, 1, "H")), [("swap", 0), ("turn", 2)])

    def test_one_block(self):
        self.assertEqual(moves((0,)), [])

    def test_swap_goes_over_letters(self):
        word = (0, 1, "H", 2, "V")
        self.assertEqual(moves(word), [("swap", 0), ("swap", 1), ("turn", 2), ("turn", 4), ("slide", 2)])
        self.assertEqual(moved(word, ("swap", 1)), (0, 2, "H", 1, "V"))

    def test_turn_takes_letters_that_follow(self):
        word = (0, 1, 2, "H", "V", 3, "H")
        self.assertEqual(moved(word, ("turn", 3)), (0, 1, 2, "V", "H", 3, "H"))
        self.assertEqual(moved(word, ("turn", 6)), (0, 1, 2, "H", "V", 3, "V"))
        self.check_error(BadMove, None, moved, word, ("turn", 4))
        self.check_error(BadMove, None, moved, word, ("turn", 2))

    def test_slide_both_ways(self):
        self.assertEqual(moved((0, 1, "H", 2, "V"), ("slide", 2)), (0, 1, 2, "H", "V"))
        self.assertEqual(moved((0, 1, 2, "H", "V"), ("slide", 2)), (0, 1, "H", 2, "V"))

    def test_slide_that_makes_no_normal_word(self):
        # Two equal letters would follow one another.
        self.check_error(BadMove, None, moved, (0, 1, "H", 2, "H"), ("slide", 2))
        # A letter would have too little on the stack.
        self.check_error(BadMove, None, moved, (0, 1, "H", 2, "V"), ("slide", 1))
        self.check_error(BadMove, None, moved, (0, 1, "H"), ("slide", 1))
        # The items are not a number and a letter.
        self.check_error(BadMove, None, moved, (0, 1, 2, "H", "V"), ("slide", 3))
        self.check_error(BadMove, None, moved, (0, 1, 2, "H", "V"), ("slide", 0))

    def test_all_moves_of_all_words(self):
        words = [word for many in (1, 2, 3, 4) for word in all_words(many)]
        for word in [*words, EIGHT, ROW_OF_EIGHT, UPWARD_EIGHT]:
            wanted = judge.plain_moves(word)
            self.assertEqual(moves(word), [move for move, _ in wanted], word)
            for move, behind in wanted:
                self.assertEqual(moved(word, move), behind, (word, move))

    def test_every_other_pair_is_no_move(self):
        for word in [*all_words(3), EIGHT]:
            known = moves(word)
            for name in ("swap", "turn", "slide", "Swap", ""):
                for place in range(-2, len(word) + 2):
                    if (name, place) not in known:
                        self.check_error(BadMove, None, moved, word, (name, place))

    def test_wrong_moves(self):
        word = (0, 1, "H", 2, "V")
        wrong = (("swap", False), ("swap", True), ("swap", None), ("swap", "0"), ("swap", [0]), ("swap", (0,)),
                 ("swap", {}), ["swap", 0], ("swap",), ("swap", 0, 0), (0, "swap"), ("slide", 10 ** 30),
                 (["swap"], 0), (None, 0), ({}, 0), (True, 1), (("swap", 0),), "swap", b"swap", BadMove())
        for move in wrong + judge.ODD_VALUES:
            self.check_error(BadMove, None, moved, word, move)

    def test_true_is_no_place(self):
        self.assertIn(("swap", 1), moves((0, 1, "H", 2, "V")))
        self.check_error(BadMove, None, moved, (0, 1, "H", 2, "V"), ("swap", True))

    def test_word_that_is_not_normal(self):
        for word in NOT_NORMAL:
            self.check_error(BadWord, ("index", None), moves, word)
            self.check_error(BadWord, ("index", None), moved, word, ("swap", 0))
            self.check_error(BadWord, ("index", None), moved, word, "no move")

    def test_new_list(self):
        first = moves((0, 1, "H"))
        first.clear()
        self.assertEqual(len(moves((0, 1, "H"))), 2)


class Roads(FloorCase):
    """Point 6: any road will do, so each one is walked."""

    def walk(self, one, other):
        answer = road(one, other)
        self.assertIsInstance(answer, tuple)
        word = one
        for move in answer:
            behind = dict(judge.plain_moves(word))
            self.assertIn(move, behind, (one, other, answer))
            self.assertIsInstance(move, tuple)
            word = behind[move]
        self.assertEqual(word, other, (one, other, answer))

    def test_one_block(self):
        self.assertEqual(road((0,), (0,)), ())

    def test_all_pairs_of_few_blocks(self):
        for many in (2, 3):
            for one in all_words(many):
                for other in all_words(many):
                    self.walk(one, other)

    def test_pairs_of_four_blocks(self):
        words = all_words(4)
        for at in range(0, len(words), 16):
            self.walk(words[at], words[(at * 7 + 301) % len(words)])
            self.walk(words[at], words[at])

    def test_equal_arguments_have_equal_results(self):
        one, other = (0, 1, 2, "H", "V"), (2, 1, "H", 0, "H")
        self.assertEqual(road(one, other), road(tuple(list(one)), tuple(list(other))))

    def test_not_as_many_blocks(self):
        self.check_error(BadWord, ("index", None), road, (0, 1, "H"), (0,))
        self.check_error(BadWord, ("index", None), road, (0,), (0, 1, "H"))
        self.check_error(BadWord, ("index", None), road, (0,), EIGHT)
        self.check_error(BadWord, ("index", None), road, EIGHT, (0,))

    def test_not_normal(self):
        self.check_error(BadWord, ("index", None), road, (0, 1, 2, "H", "H"), (0, 1, 2, "H", "V"))
        self.check_error(BadWord, ("index", None), road, (0, 1, 2, "H", "V"), (0, 1, 2, "H", "H"))

    def test_too_many_blocks(self):
        five = (0, 1, 2, 3, 4, "H", "V", "H", "V")
        self.check_error(TooMany, ("most", 4), road, five, five)
        self.check_error(TooMany, ("most", 4), road, EIGHT, ROW_OF_EIGHT)

    def test_two_wrong_arguments(self):
        self.check_error(BadWord, ("index", 1), road, (0, 0, "H"), (0, 1, "h"))
        self.check_error(BadWord, ("index", 2), road, (0, 1, "h"), None)
        self.check_error(BadWord, ("index", None), road, (0, 1, 2, "H", "H"), (0, 1, "h"))
        self.check_error(BadWord, ("index", None), road, [0], (1,))
        # The first one has more blocks than the second one, but an item of this one is wrong.
        self.check_error(BadWord, ("index", 2), road, (0, 1, 2, "H", "V"), (0, 1, "h"))

    def test_wrong_words_of_many_blocks(self):
        long_word = EIGHT[:-1] + ("H",)
        self.check_error(BadWord, ("index", None), road, long_word[:-2] + ("V", "V"), EIGHT)
        self.check_error(BadWord, ("index", None), road, EIGHT, long_word[:-2] + ("V", "V"))


if __name__ == "__main__":
    unittest.main()
